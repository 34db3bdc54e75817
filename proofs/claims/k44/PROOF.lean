import PyProof.Rows.All
import Open.Pieces
import OpenK.KLine
import PySem.Challenge.RW_tellworld_k44_whole_rows_read
import PyProof.EqAt
import PyProof.EqKinds
import PyProof.TupleCall
import PyProof.StrWalks
import PyProof.ConsumeWalk
import PyProof.NeKinds
import PyProof.Rows.SetFrom
import KE.KIsAll
import PyProof.WalksMore
import PyProof.TupleKey
import PyProof.DictWalks
import PyProof.Rows.ZipGen
import KE.KDictLaws
import PyProof.DictItems
import KE.KSortTup
import PyProof.TupleOfSeq
import PyProof.Rows.SortStr
import PyProof.Rows.StrInSeq3
import PyProof.TupleIter
import KE.KDictOf
import PyProof.CollectWalk
import PyProof.Rows.SeqMore
import PyProof.IsiH_tuple
import PyProof.AttrMiss
import PyProof.Rows.Tup
import PyProof.WalksS
import PyProof.DictRoadsH
import PyProof.EnumIter
import PyProof.EnumFor
import PyProof.EnumMake
import PyProof.EnumStmt
import PyProof.Rows.StrJoin2
import PyProof.AutoSeq1
set_option genSizeOf false
set_option compiler.extract_closed false
local macro_rules|`(#v[$a,*])=>`(⟨$a,*⟩)
local macro_rules (kind:=Lean.Parser.Command.in)|s=>do
 if s[0][1].getId != `r then Lean.Macro.throwUnsupported
 return Lean.mkNullNode (((s[0][3].isStrLit?.getD "").splitOn ";").toArray.map fun l=>
  let w:=l.splitOn " "
  let f:=fun z:String=>match z.splitOn "ϑ" with
   |a::b=>a++"".intercalate (b.map fun x=>w.getD (x.front.toNat-48) ""++(x.drop 1).toString)
   |_=>z
  s[2].rewriteBottomUp fun t=>match t with
   |.ident i _ n _=>
    let y:=n.toString
    if y.contains 'ϑ' then let y:=f y;if y.front.isDigit then .node i `num #[.atom i y] else Lean.mkIdentFrom t y.toName else t
   |.atom i x=>.atom i (f x)
   |_=>t)
local macro_rules (kind:=Lean.Parser.Command.set_option)|s=>if s[1].getId= `h then return s.setArg 1 (Lean.mkIdent `tactic.hygienic) else Lean.Macro.throwUnsupported
local macro_rules (kind:=Lean.Parser.Command.declaration)|s=>do
 if s.getPos?.isNone||s[1][1][0].getId.getRoot== `PySem then Lean.Macro.throwUnsupported
 let s:=s.rewriteBottomUp (·.setInfo .none)
 if s[1].getKind∈[``Lean.Parser.Command.definition,``Lean.Parser.Command.abbrev,``Lean.Parser.Command.instance]&&s[0][4].isNone then
  return s.setArg 0 (s[0].setArg 4 (Lean.mkNullNode #[Lean.Syntax.node .none ``Lean.Parser.Command.noncomputable #[Lean.mkAtom "noncomputable"]]))
 return s
set_option bootstrap.genMatcherCode false
noncomputable section
open Option renaming some->Z,none->O
open Bool renaming true->γ,false->δ
def U{b:Sort _}{a:b}:a=a:=rfl
open List renaming length_map->ae,length_append->aA,getElem?_eq_getElem->aO,mem_map->au,all_eq_true->aH,mem_cons_of_mem->a9,mem_cons_self->ba,length_cons->aU,mem_filter->aQ,mem_cons->aM,mem_append_right->bx,map_append->aX,getElem?_map->bg,getD_eq_getElem?_getD->bQ,mem_append->aZ,range->aC,size_toArray->bp,map_cons->aV,mem_singleton->bu,mem_append_left->bC,getElem?_eq_some_iff->bY,map_map->aY,mem_of_getElem?->bV,length_range->bL,mem_range->bB,mem_map_of_mem->b8,append_assoc->b9,length_filter_le->cy,append_nil->cf,not_mem_nil->cg,nodup_append->cu,length_take->cv,length_singleton->cU,getElem?_set->cF,length_replicate->c7,nil_append->cD,mergeSort_perm->dy,length_drop->c8,getElem?_append_right->gf,mem_flatMap->dB,getElem?_append_left->gh,length_nil->dD,filterMap_cons->eU,getElem?_drop->eZ,nodup_cons->dM,length->cP,getElem?_eq_none->gj,zip_cons_cons->fK,getElem_mem->fj,lookup_cons->fo,length_eq_zero_iff->hZ,take_of_length_le->ic,drop_eq_getElem_cons->iR,any_eq_true->fN,replicate->fw,take_add_one->gu,pairwise_mergeSort->iV,flatMap_cons->gv,find?_cons->fO,map_nil->eA,zipWith_cons_cons->iY,length_pos_of_mem->i3,filter_eq_nil_iff->i4,lookup->dO,filter_cons->gx,length_set->gB,zipWith->fC,map_drop->fT,idxOf_lt_length_iff->jI,map_take->fU,getElem?_replicate->jJ,map->c4,filter_cons_of_pos->jK,getElem?_set_self->jL,mem_filterMap->ja,length_zip->il,all_cons->gG,any_cons->gH,getElem?_toArray->jM,perm_append_singleton->k8,mem_of_find?_eq_some->lh,map_congr_left->jP,foldl_cons->jj,filter_cons_of_neg->ly,take_sublist->jT,contains_iff_mem->lA,take_append_drop->lC,getElem_inj->jZ,cons_append->j5,zip_map'->jm,getElem?_set_ne->lD,mem_iff_getElem->lE,mem_of_mem_drop->lK,map_id->iI,length_take_le'->lL,of_mem_zip->j8,range_succ->j9,getElem?_range->lQ,length_zipWith->lS,getElem_of_mem->lX,filter_sublist->lY,take_sublist_take_left->ox,find?_eq_none->l8,filter_append->mh,ext_getElem?->mj,pairwise_map->mB,length_erase_of_mem->oN,drop_length->mG,take_length->mI,drop_eq_nil_of_le->oX,zip_append->mL,find?_some->mO,filterMap_append->o6,nodup_nil->mU,mem_erase_of_ne->pe,length_eraseIdx->pf,mem_of_mem_take->ph,filter_eq_self->pF,length_pos_iff->pG,perm_singleton->pH,contains_cons->pO,map_filterMap->pU,getElem_idxOf->pX,getElem_range->pZ,any_eq_false->p6,foldl_append->qc,filter_congr->ql,head?_filter->qm,nodup_range->qB,range'_succ->qD,map_flatMap->qE,ext_getElem->qF,getElem_map->qG,filter_map->qR,drop_nil->rG,all_map->rQ,range'->sr,rec->sC
open PySem renaming wpAny_bind->ai,Value->ab,wpAny_pure->ar,Shared->af,starEach->aF,wpAny->ao,sizeLine->aJ,Program->aL,mainGlobals->bN,Around->aR,World->aE,compareOp->bD,sizeLine_eq->bX,Spec->vq,wpAny_setState_of->dA,wpAny_holding->cJ,SetTable->bS,wpAny_truthy_bool->dG,wpAny_Call_Name_kw->d4,wpAny_mono->cA,wpAny_newObj_type->d5,codeAny_builtin->d7,FuncData->cn,backTo->bO,wpAny_call_entry->fM,assignEach->de,bootBuiltins->ee,attributeBase->fA,keywordEach->dP,strKind->fB,sysModules->dE,binaryOp->cK,wpAny_passesOwn->gz,wpAny_pyIter_list->ig,codeAny->cG,mem_of_lookup->i9,behindInMarks->gE,swapsWith->dQ,plainId_quiet->gL,foldedSetIterable->jb,ofAClassStatement->jc,wpAny_setField->ir,filterMap_getElem?_range->lp,letOwnedTupleGo->jh,wpAny_specialOf->ji,call_meets->fX,tupleKind_room_in1->jS,wpAny_callSpecial?_slot->lu,codeAny_mono->iA,NameKind->eI,wpAny_typeOf->iB,call_meetsIn->iC,wpAny_Call_method->jU,wpAny_storeSet_of->jW,wpAny_forIn_list->j4,wpAny_rule->gS,wpAny_execs_nil->j7,Keyword->eJ,isSubtype_type->kc,Scope->cR,Builtin->fG,Paired->gU,GenState->gV,wpAny_askSetting->mF,IsPart->eK,typeIs_str->jq,wpAny_Call_method_late->oW,wpAny_updateSeq->mM,wpAny_isTrue_Compare1->o4,wpAny_eqIsQuiet_tuple->o5,builtinLookup_eq_fast->o7,carriedByValue->mR,wpAny_seqItems->mS,codeAny_call_builtin->pd,typeIs_none->km,wpAny_newList->m7,wpAny_pyIter_tuple->pK,wpAny_call->kq,PlainAttrs->ku,Within->m9,BindsTo->iN,wpAny_sequenceKey->p9,slot_list_getitem->qa,wpAny_pyIter_slot->qg,fits_of_scanBound->qh,wpAny_setEpoch_of->qj,wpAny_pyHash_str->qo,wpAny_execs_cons->qp,PassesOwn->kz,Result->gX,noFill_tuple_add->qu,wpAny_isInstance->qC,wpAny_field->nE,codeAny_of_tree->qJ,typeLookup_type->qO,wpAny_Name->nI,meets_dict_get->qY,call->nL,wpAny_runValue->qZ,boot_len->q8,wpAny_newTuple->ra,entryFor_alias->ro,KeyKind->rp,intBits_le_64->rq,seq_tuple_add->rA,evalPart_none->rD,call_list_seq->rE,wpAny_standAt->rF,signature?_of->rK
open PySem.Heap renaming get?_push_of_some->aT,get?_push_size->bA,lt_size->bb,size_push->c9,get?_update_self->gm,SameBut->eh,get?_update_other->iX
open Bool renaming and_eq_true->aW,false_ne_true->bH,not_eq_true'->dH,eq_iff_iff->d6,false_eq_true->gp,or_eq_true->ip,eq_false_iff->jd,or_eq_false_iff->lG,false_or->mY,not_eq_true->qA,and_false->qX,rec->nR
open Nat renaming le_refl->aI,le_of_ble_eq_true->bG,mod_lt->aK,ne_of_lt->bj,le_trans->bz,lt_of_lt_of_le->cz,zero_le->bR,lt_succ_self->dJ,lt_succ_of_lt->fi,lt_of_le_of_lt->gn,lt_of_succ_lt_succ->iZ,min_eq_left->gA,lt_irrefl->fS,le_add_right->ik,le_succ->fW,ne_of_gt->gO,min_self->gQ,zero_add->iy,le_of_lt->iz,le_of_succ_le->jY,ble_eq->gR,succ_le_succ->j6,add_right_comm->lZ,mod_add_mod->mQ,ble->gW,eq_zero_or_pos->pY,succ_pos->ny,le_of_lt_succ->qd,le_of_not_lt->qy,not_lt_zero->qQ,beq->jt,max_le->nM,le_of_eq->rM,sub_self->rP,pow_succ->rT,sub_le->sy
open PySem.W renaming Frag->aw,kia_one->cQ,kitOne->cM,emptyDict->eC,findIn->cZ,instObj->fD,keepIn->eG,kitx_dict->iG,kitx_list->jo,fnOf->fH,codeIn->iK,OpenLaw->iM,plainGet_of->mW,callWith_K0->mX,plainGet->ko,kitx_tuple->ng,callWith_K->nu,cellsFrom_some->qr,methodObj->nz,hasDictIn->nD,methodCall_KW->qI,mg_of->jv,lookIn->kA,looks_findIn->qV,kas_sort->kB,makes_of->nN,takerIn->nO,makesIn->nP,kas_ask->kC,nsIn->jw,plainOver->rX,make_core->rY,specialIn->rZ,kitx_none->r6,kitx_bool->sd,isFn->kE
open Array renaming length_toList->bZ,getD_eq_getD_getElem?->hU,getElem?_toList->i7,getElem?_eq_getElem->jG,getElem?_eq_some_iff->oH,perm_iff_toList_perm->oI,toList_push->mC,size_eq_one_iff->o8,forIn_toList->pQ,replicate->qN,size_map->rj,toList->rL,map->sA
open PyProof.Rows.F renaming plain_set_update_loop->dY,entry_set_update_loop->ia
open Option renaming map_eq_some_iff->dZ,map_some->gy,isSome_iff_exists->oK,getD_some->qz,map->sv
open PyProof.Rows renaming slot_tuple_getitem->gb,StrsAre->i8,AllBare->fE,subscriptTail_builtinR->oV,boot_isinstance->mN,entry_tuple_getitem->pj,listUpdate_at->m6,args_tuple_getitem->pM,seqEpoch_at->nF,boot_sorted->nG,get?_update_seq->qL,entry_list_sort->qM,IntsAre->ju,split_le->qU,IsTup->fZ,slicePart_none->qW,Subscript_->nJ,slot_list_sort->rb,args_list_sort->rg,tupleItemsOf_->rB,ext_toList->uB,split_pos->uC,lt_str->u7
open PySem.Heap.SameBut renaming update->dF
open Option.some renaming inj->cW,injEq->vg
open PySem.SetTable.layClean renaming free->eO
open PySem.Around renaming under_plainId->eQ,under->nh
open PySem.SetTable renaming bits->cX,below->d8,grown->d9,runEnd->fQ,Probe->fR,turns->iq,insertAt->jX,fits->jl,advance->mH,insertAt_perm->oZ,fill->m8,layClean->qe,laid->rJ,has->rS
open Prod renaming snd->cc,fst->cp
open PySem.Calls renaming spliced_cons->eX,callWith_builtin->ib,evalArgs_plain->ie,spliced_nil->gq,Name_function_global->oA,call_function_entry->oJ
open PySem.Obj renaming data_mapFields->fL,mapSeq->eE,mapFields->gM,isFreed_of_fields->jN,cls_mapFields->mE,putSet->ky
open PySem.Builtin.List renaming listTooLong->iU,listSameRef->oO,listExtendWith->tT
open Int renaming toNat_natCast->gr,emod_nonneg->jk,natCast_nonneg->jQ,fdiv_eq_ediv_of_nonneg->oE,emod_lt_of_pos->mf,eq_ofNat_of_zero_le->oR,negSucc_lt_zero->pq,max_eq_right->qw,le_refl->nH,min_eq_left->qH,ofNat_le->rN,le_of_lt->rO
open Classical renaming propDecidable->iW,byContradiction->lg,axiomOfChoice->oU
open False renaming elim->dc
open PySem.F renaming slot_dict_get->fP,called_set->fV,plainAttrs_list->je,slot_NoneType_hash->jO,entry_dict_get->jg,slot_list_extend->jR,plainAttrs_dict->jV,slot_str_split->j3,sub_list_frozenset->lI,slot_list_append->l4,args_str_split_2->l7,args_dict_get_2->mm,entry_str_split->mx,slot_dict_setdefault->oY,type_dict_get->mK,args_list_extend_2->pb,sub_list_set->mT,entry_list_extend->pC,args_tuple_add_2->pL,type_list_append->pS,type_list_extend->pT,slot_list_insert->pV,slot_tuple_index->pW,entry_tuple_add->p8,args_dict_get_3->qb,plain_list_iadd->qk,slot_tuple_add->qv,plain_set_new->qK,slot_set_iter->qP
open PySem.Txt renaming split->cY,mul->fF
open PySem.Builtin.Slice renaming slicePlaces->jF,sliceAdjust->k9,sliceApplied->oF,slicePartIndex->tR,sliceFields->uf
open PySem.Builtin.Tuple renaming tupleExact->jH,tupleItemsOf->oG
open PySem.SetTable.probe renaming go->jf
open PySem.Value renaming isStrOf->iu,isInt->rW
open List.Perm renaming eq_of_pairwise->lj
open LawfulBEq renaming eq_of_beq->fY
open Ne renaming symm->dR
open PySem.Builtin renaming bitAnd->ka
open PySem.SeqAt.EqAt renaming str_str->l3,of_refs->l5,same->mJ,none_int->px,none_str->pz,int_none->pA,str_none->pB,int_str->pI,str_int->pJ,tuple_none->uD,tuple_bool->uE,tuple_list->uF,list_tuple->uG,none_tuple->uH,bool_tuple->uI,none_bool->uK,bool_none->uL,bool_bool->uM,tuple_int->uN,tuple_str->uO,list_none->uP,list_bool->uQ,none_list->uR,bool_list->uS,int_tuple->uT,str_tuple->uU,bool_int->uV,bool_str->uW,int_bool->uX,str_bool->uY,list_int->uZ,list_str->u0,int_list->u4,str_list->u5,int_int->vb
open PySem.AutoSeq1 renaming wpAny_loadPart'->oM
open PySem.SeqAt renaming eq_list_lengthsAt->oP,EqAt->jr,in_tupleAt->qx
open PySem.Builtin.Str renaming occurrences->oQ,strKind->pE,partsBetween->uz
open PySem.Str renaming ofString->kg
open PySem.Walks renaming list->js
open Sum.inr renaming inj->kh
open PySem.Moved renaming trans->kj
open Std.Legacy.Range renaming forIn_eq_forIn_range'->tQ,size->uJ
open PySem.Paired renaming length->mV,snoc->sg
open PySem.Shared renaming TypeIs->mZ
open PySem.Code renaming isFrame->ni,frames->se
open Nat.succ renaming inj->nv
open PySem.SetTable.below renaming go->qf
open PySem.Builtin.Frozenset renaming updateFrom->tS,newClass->tV
open PySem.PassesOwn renaming never->qS
open PySem.SeqAt.RcNeAt renaming lists_lengths->tU,tuples->u6,lists->vc
open PySem.EqNone renaming eq_none_none->tW,eq_none_bool->tY,eq_bool_none->tZ,ne_none_none->t8,ne_none_bool->ua,ne_bool_none->uc,eq_none_int->ug,eq_none_str->uh,eq_int_none->ui,eq_str_none->um,ne_none_int->uq,ne_none_str->ur,ne_int_none->uu,ne_str_none->uw
open PySem.EqMixed renaming eq_bool_str->t6,eq_str_bool->t7,ne_bool_str->ud,ne_str_bool->ue,eq_int_str->uj,eq_str_int->uo,ne_int_str->uv,ne_str_int->ux
open PySem.SeqAt.RcAt renaming lists_lengths->uy,tuples->vh,lists->vn
open PySem.Pv renaming boot_tuple->rH,boot_list->rR,boot_set->sj,boot_int->sk
open PySem.Builtin.Range renaming rangeSize->uA
open PyProof.Rows.IsTup renaming new->nQ
open PySem.pickOrder renaming go->rU
open Prod.mk renaming inj->rV
open PySem.Heap.IsSliceOf renaming new->u9
open PySem.W.WShape renaming has->su
open List.Sublist renaming nodup->vd
open PySem.Within renaming cons->ve
open List.Pairwise renaming map->vm
open PySem.Heap.DictOf renaming new->vp
def aP:=@decide_eq_false
def aj:=@if_pos
def aS:=@decide_eq_true
def ak:=@if_neg
def bh:=@of_decide_eq_true
def aq:=@absurd
def bK:=@decide_eq_true_eq
def bE:=@congrArg
def Eq.t:=@Eq.trans
def Iff.t:=@Iff.trans
def List.Perm.t:=@List.Perm.trans
def PySem.Heap.SameBut.t:=@PySem.Heap.SameBut.trans
def PySem.Moved.t:=@PySem.Moved.trans
abbrev cO:=List (PySem.Addr×PySem.Obj)
abbrev aB:=List PySem.Str
set_option Elab.async false
set_option linter.all false
namespace L5
open PySem PySem.W
noncomputable def u3(l:List Obj):Nat->List Addr->List Obj:=
 @sC Obj (λ_=>Nat->List Addr->List Obj) (λ_ _=>[])
  (λo _ b i as=>@sC Addr (λ_=>List Obj) [] (λa r _=>@nR (λ_=>List Obj) (b (Nat.succ i) as) (o::b (Nat.succ i) r) (jt a i)) as) l
def RJ(i:Nat)(as:List Addr):u3 [] i as=[]:=rfl
def VH(o:Obj)(l:List Obj)(i:Nat)(r:List Addr):u3 (o::l) i (i::r)=o::u3 l (i+1) r:=by show @nR (λ_=>List Obj) _ _ (jt i i)=_;rw[Nat.beq_refl];rfl
def VI(o:Obj)(l:List Obj)(i a:Nat)(r:List Addr)(h:a≠i):u3 (o::l) i (a::r)=u3 l (i+1) (a::r):=by
 show @nR (λ_=>List Obj) _ _ (jt a i)=_;have:jt a i=δ:=by
  cases q:jt a i with
  |false=>rfl
  |true=>exact aq (Nat.eq_of_beq_eq_true q) h
 rw[this];rfl
theorem Kv:∀(l:List Obj) (i:Nat) (as:List Addr),(u3 l i as).length=as.length->∀j (c:j<as.length),∃b,as[j]=i+b/\l[b]?=(u3 l i as)[j]?
 |[],i,as,h,j,c=>by rw[RJ]at h;simp at h;omega
 |o::l,i,[],h,j,c=>by simp at c
 |o::l,i,a::r,h,j,c=>by
  by_cases q:a=i
  .subst q;rw[VH]at h ⊢;cases j with
   |zero=>exact#v[0,U,U]
   |succ j=>obtain⟨b,d,e⟩:=Kv l (a+1) r (by simpa using h) j (by simpa using c);exact#v[b+1,by rw[List.getElem_cons_succ,d];exact lZ a 1 b,by simpa using e]
  .rw[VI _ _ _ _ _ q]at h ⊢;obtain⟨b,d,e⟩:=Kv l (i+1) (a::r) h j c;exact#v[b+1,by rw[d];exact lZ i 1 b,by simpa using e]
def live(o:Obj):Bool:=match o with|#v[_,_,.freed,_]=>δ|_=>γ
def VJ{h:Heap}{as:List Addr}{K:Frag}(e:as=K.map (·.1))(x:(u3 h.objs.toList 0 as,K.all λp=>live p.2)=(K.map (·.2),γ)):K.In h:=by
 obtain⟨i,r⟩:=rV x;refine Frag.in_of e (mj λj=>?_);rw[bg,bg];by_cases a:j<as.length
 .have q:(u3 h.objs.toList 0 as).length=as.length:=by rw[i,e,ae,ae]
  obtain⟨b,l,m⟩:=Kv _ _ _ q j a;have f:j<K.length:=by rw[e,ae]at a;exact a
  rw[aO a,aO f,gy,gy,l,iy];have o:h.objs[b]?=Z (K[j].2):=by rw[<-i7,m,i,bg,aO f];rfl
  have lv:live K[j].2=γ:=aH.1 r _ (fj f);refine bE Z ?_;unfold Heap.get?;rw[o];revert lv;cases K[j].2 with
  |mk c d data t=>cases data<;>intro lv<;>first|rfl|cases lv
 .rw[gj (by omega),gj (by rw[e,ae]at a;omega)];rfl
noncomputable def adg(K:Params->Frag) (as:List Addr) (e:∀P,as=(K P).map (·.1)):Hook:=
 #v[List Obj×Bool,λs=>(u3 s.heap.objs.toList 0 as,γ),λw=>((K w.params).map (·.2),(K w.params).all λp=>live p.2),InK K,λw s x=>VJ (e w.params) (by
  obtain⟨a,b⟩:=rV x;rw[a,<- b]),InK.keeps]
end L5
section
open PySem PySem.W PyProof.Rows
local macro_rules|`(tactic|o_head ($f:ident $k $as $e))=>`(tactic|o_head ((L5.adg $k $as (fun _=>by kernel_rfl)):W.Hook))
local macro_rules|`(command|#where)=>do
 let mut r:=#[]
 for (k,l) in [("o",List.range' 43 1764),("sts",[49,124,206,234,277,320,363,406,449,492,528,571,621,664,679,725,798,814,864,914,935,980,1003,1027,1086,1175,1243,1319,1399,1626,1709,1785]),("tree",[47,123,205,233,276,319,362,405,448,491,527,570,620,663,678,724,797,813,863,913,934,979,1002,1026,1085,1174,1242,1318,1398,1537,1622,1708,1784,1806]),("heap",[39,46,1807]),("view",[39])] do
  for n in l do
   let x:=Lean.mkIdent (.mkSimple s!"tw{((Lean.Name.mkSimple "hd").str s!"{k}_{n}").hash}")
   r:=r.push ((<-`(command|noncomputable def $x:ident:=0)).raw.rewriteBottomUp (·.setInfo .none))
 return Lean.mkNullNode r
noncomputable section
namespace PySem.W.Fast
def tw10941891084835848127:=0
#where
end PySem.W.Fast
end
def zvp:=PySem.Challenge.pw_tellworld_k44_whole_rows_read
noncomputable def zvq:=view zvp [191]
local macro_rules|`(tactic|refine $t)=>do
 if t.raw[0].getId != ``PySem.W.holds_open||t.raw[1][0][3].getId.eraseMacroScopes== `zvq then Lean.Macro.throwUnsupported
 let n:=fun (i:Nat) (x:Lean.Term) (a:Array Lean.Syntax)=>a.set! i (a[i]!.setArg 3 x)
 `(tactic|refine $(Lean.TSyntax.mk (t.raw.setArg 1 (Lean.mkNullNode (n 0 (<-`(zvq)) (n 1 (<-`(zvp.boundNames)) (n 2 (<-`(fun s=>xlAt zvq [] s&&recOk [] s)) (n 3 (<-`(XL zvq [])) t.raw[1].getArgs))))))))
set_option maxRecDepth 100000 in
set_option maxHeartbeats 0 in
open_top hd for PySem.Challenge.rw_tellworld_k44_whole_rows_read
end
set_option h false
set_option maxRecDepth 100000
theorem zA0(h:True:=by rfl):True:=h
theorem zA1(h:True:=by decide):True:=h
theorem zA2(h:True:=by first|exact .inl U|exact .inr U|assumption):True:=h
theorem zA3(h:True:=by intro _;rfl):True:=h
theorem zA4(h:True:=by with_unfolding_all rfl):True:=h
theorem zA5(h:True:=by (repeat intro _);rfl):True:=h
theorem zA6(h:True:=by kernel_rfl):True:=h
theorem zA7(h:True:=by (repeat intro _);exact#v[_,U,U]):True:=h
namespace L2
open PySem PySem.Spec PyProof.Rows
abbrev d?:=Sum Int Str
def HU:d?->ab->Bool
 |.inl k,v=>rW k v
 |.inr x,v=>iu x v
def keyH(w:aE):d?->Int
 |.inl k=>hashInt k
 |.inr x=>hashStr w x
def xb:∀{k:d?} {v:ab},HU k v=γ->(∃i t,k=Sum.inl i/\v=Value.int i t)\/(∃x t,k=Sum.inr x/\v=Value.str x t)
 |.inl i,v,h=>by obtain⟨t,e⟩:=Value.isInt_shape (k:=i) (v:=v) h;exact .inl #v[i,t,U,e]
 |.inr x,v,h=>by obtain⟨t,e⟩:=Value.isStrOf_shape (x:=x) (v:=v) h;exact .inr #v[x,t,U,e]
def Ql(i:Int)(t:Tok):HU (.inl i) (.int i t)=γ:=by simp[HU,rW]
def Qm(x:Str)(t:Tok):HU (.inr x) (.str x t)=γ:=by simp[HU,iu]
def Zg(a b:Int):decide ((Sum.inl a:d?)=Sum.inl b)=(a==b):=by
 by_cases e:a=b
 .subst e;simp
 .have h:¬(Sum.inl a:d?)=Sum.inl b:=λq=>e (Sum.inl.inj q);rw[aP h];exact(beq_eq_false_iff_ne.2 e).symm
def Zh(a b:Str):decide ((Sum.inr a:d?)=Sum.inr b)=decide (a=b):=by
 by_cases e:a=b
 .subst e;simp
 .have h:¬(Sum.inr a:d?)=Sum.inr b:=λq=>e (kh q);rw[aP h,aP e]
set_option r "i Int Str l r;j Str Int r l" in def Zϑ0(a:ϑ1)(b:ϑ2):decide ((Sum.inϑ3 a:d?)=Sum.inϑ4 b)=δ:=aP (λq=>nomatch q)
def v5(prog:aL)(w:aE):rp prog w d? where
 is:=HU
 hash:=keyH w
 inj:=λv a b ha hb=>by
  rcases xb ha with ⟨i,t,rfl,rfl⟩|⟨x,t,rfl,rfl⟩
  .rcases xb hb with ⟨j,u,rfl,e⟩|⟨y,u,rfl,e⟩
   .injection e with c _;rw[c]
   .exact nomatch e
  .rcases xb hb with ⟨j,u,rfl,e⟩|⟨y,u,rfl,e⟩
   .exact nomatch e
   .injection e with c _;rw[c]
 byValue:=λk v h=>by rcases xb h with ⟨i,t,rfl,rfl⟩|⟨x,t,rfl,rfl⟩<;>rfl
 pyHash:=λd h=>by
  rcases xb d with ⟨i,t,rfl,rfl⟩|⟨x,t,rfl,rfl⟩
  .exact wpAny_pyHash_int h
  .exact qo h
 eqBool:=λf d h=>by
  rcases xb f with ⟨i,t,rfl,rfl⟩|⟨x,t,rfl,rfl⟩
  .rcases xb d with ⟨j,u,rfl,rfl⟩|⟨y,u,rfl,rfl⟩
   .rw[Zg]at h;exact wpAny_eqBool_int h
   .rw[Zi]at h;exact pI i t y u _ _ _ _ h
  .rcases xb d with ⟨j,u,rfl,rfl⟩|⟨y,u,rfl,rfl⟩
   .rw[Zj]at h;exact pJ x t j u _ _ _ _ h
   .rw[Zh]at h;exact wpAny_eqBool_str h
 «strs»:=λk x t v h=>by
  rcases xb h with ⟨i,u,rfl,e⟩|⟨y,u,rfl,e⟩
  .exact nomatch e
  .injection e with c _;subst c;cases v<;>rfl
set_option r "Q i Int l int l;R x Str r str m" in def Lϑ0(prog:aL)(w:aE)(ϑ1:ϑ2)(t:Tok):(v5 prog w).is (.inϑ3 ϑ1) (.ϑ4 ϑ1 t)=γ:=Qϑ5 ϑ1 t
inductive V where
 |U|X (b:Bool)|int (i:Int)|str (x:Str)|V' (b:Array UInt8)|flt (b:UInt64)|ref (a:Addr)|ty (n:String)
 deriving DecidableEq
abbrev bF:=List V
def dd:V->ab->Prop
 |.U,u=>u=Value.none
 |.X b,u=>u=Value.bool b
 |.int i,u=>∃t,u=Value.int i t
 |.str x,u=>∃t,u=Value.str x t
 |.V' b,u=>∃t,u=Value.bytes b t
 |.flt b,u=>∃t,u=Value.float b t
 |.ref a,u=>u=Value.ref a
 |.ty n,u=>u=Value.type n
abbrev c6:bF->List ab->Prop:=gU dd
theorem c6.length(r:c6 xs a):xs.length=a.length:=mV r
theorem c6.get:∀{b:bF} {a:List ab} {i:Nat} {x:V},c6 b a->b[i]?=Z x->∃u,a[i]?=Z u/\dd x u
 |_,_,_,_,.nil,e=>by simp at e
 |_,_,0,_,.cons r _,e=>by simp at e;subst e;exact#v[_,U,r]
 |_,_,i+1,x,.cons _ t,e=>by obtain⟨u,c,d⟩:=c6.get (i:=i) (x:=x) t (by simpa using e);exact#v[u,by simpa using c,d]
theorem c6.append:∀{b c:bF} {a ws:List ab},c6 b a->c6 c ws->c6 (b++c) (a++ws)
 |_,_,_,_,.nil,s=>s
 |_,_,_,_,.cons r t,s=>.cons r (c6.append t s)
theorem c6.take:∀{xs:bF} {a:List ab} (n:Nat),c6 xs a->c6 (xs.take n) (a.take n)
 |_,_,0,_=>.nil
 |_,_,_+1,.nil=>.nil
 |_,_,n+1,.cons r t=>.cons r (c6.take n t)
theorem c6.drop:∀{xs:bF} {a:List ab} (n:Nat),c6 xs a->c6 (xs.drop n) (a.drop n)
 |_,_,0,r=>r
 |_,_,_+1,.nil=>.nil
 |_,_,n+1,.cons _ t=>c6.drop n t
def Du:Option V->Option ab->Prop
 |some v,Z u=>dd v u
 |none,O=>True
 |_,_=>False
def KV{a:Type}:List (a×V)->List (a×ab)->Prop:=gU λ(p:a×V) (q:a×ab)=>p.1=q.1/\dd p.2 q.2
def kV:d?->V
 |.inl i=>.int i
 |.inr x=>.str x
inductive HO where
 |a3 (xs:bF)
 |a7 (xs:bF)
 |dK (kvs:List (d?×V))|dT (kvs:List (List d?×V))
 |set (S:Int->Bool) (n:Nat)
 |ke (C dx:Addr) (fs:List (Str×V))
 |f5 (x:Addr)
 |xd (fs:List (Str×V))
 |met (f x:Addr)
 |rng (lo hi:Int)
 |mr (o:Obj) (u:HO)
 |tbl (ps:Array ab)
 |ext (φ:Heap->Prop)
abbrev Hp:=Addr->Option HO
def ef(H:Hp)(a:Addr)(o:HO):Hp:=λb=>if b=a then Z o else H b
def vI:ef H a o a=Z o:=by unfold ef;rw[aj U]
def vM(h:b≠a):ef H a o b=H b:=by unfold ef;rw[ak h]
def adi{H:Hp}{a b:Addr}{o u:HO}(h:H a=Z o)(c:H b=Z u)(d:o≠u):a≠b:=by intro e;subst e;rw[h]at c;exact d (cW c)
def yA{H:Hp}{a b:Addr}{o:HO}(h:H a=Z o)(c:H b=O):a≠b:=by intro e;subst e;rw[h]at c;cases c
section
variable(P:aL)(w:aE)
def en(H:Hp)(h:Heap)(a:Addr):HO->Prop
 |.a3 c=>c.length<=aJ/\∃(b:List ab) (n:Nat),c6 c b/\h.get? a=Z { cls:=.type "list", data:=.seq b.toArray n }
 |.a7 c=>c.length<=aJ/\∃b:List ab,c6 c b/\fZ h a b.toArray/\∀o,h.get? a=Z o->o.dict=O
 |.dK kvs=>kvs.length<=aJ/\(a==dE)=δ/\∃m,KV kvs m/\h.DictOf (v5 P w) a m
 |.dT kvs=>kvs.length<=aJ/\(a==dE)=δ/\∃c:List (List d?×Addr×ab),
   gU (λ(p:List d?×V) (q:List d?×Addr×ab)=>p.1=q.1/\H q.2.1=Z (.a7 (p.1.map kV))/\dd p.2 q.2.2) kvs c/\
   ∃o i r,h.get? a=Z o/\o.ExactDict/\o.data=.dict i r/\i.toList=c.map (entryOfKey (tupleKind (v5 P w)))/\(c.map (·.1)).Nodup
 |.set S n=>h.SetOf (intKind P w) a S n
 |.ke C d fs=>H d=Z (.f5 a)/\fs.length<=1000/\d≠a/\h.get? a=Z (fD C d)/\
   ∃mA,h.Ns1 d mA/\(∀f,Du (fs.lookup f) (mA f))/\m9 mA (fs.map (·.1))
 |.f5 _=>∃o,h.get? a=Z o
 |.xd fs=>∃mA,h.Ns1 a mA/\∀f,Du (fs.lookup f) (mA f)
 |.rng lo y=>∃t u v,h.get? a=Z { cls:=.type "range", data:=.fields #[.int lo t,.int y u,.int 1 v] }
 |.mr o u=>h.get? a=Z o/\en H h a u
 |.tbl z=>h.get? a=Z { cls:=.none,data:=.fields z }
 |.met f x=>h.get? a=Z (nz (.ref f) (.ref x))
 |.ext e=>e h/\(∃o,h.get? a=Z o)/\∀j l:Heap,e j->(∀o,j.get? a=Z o->l.get? a=Z o)->e l
def n3(H:Hp)(h:Heap):Prop:=∀a o,H a=Z o->en P w H h a o
end
section
variable{P:aL}{w:aE}{H H':Hp}{h h':Heap}{a:Addr}{o:HO}
theorem en.lt(x:en P w H h a o):a<h.objs.size:=by
 cases o with
 |a3 b=>obtain⟨_,_,_,_,e⟩:=x;exact bb e
 |a7 b=>obtain⟨_,_,_,p,_⟩:=x;exact p.lt
 |dK kvs=>obtain⟨_,_,_,_,o,_,_,e,_⟩:=x;exact bb e
 |dT kvs=>obtain⟨_,_,_,_,o,_,_,e,_⟩:=x;exact bb e
 |set S n=>obtain⟨o,_,_,_,e,_⟩:=x;exact bb e
 |ke C c fs=>obtain⟨_,_,_,e,_⟩:=x;exact bb e
 |f5 y=>obtain⟨_,e⟩:=x;exact bb e
 |xd fs=>obtain⟨_,⟨_,_,_,e,_⟩,_⟩:=x;exact bb e
 |rng lo d=>obtain⟨_,_,_,e⟩:=x;exact bb e
 |mr i u=>obtain⟨e,_⟩:=x;exact bb e
 |tbl j=>exact bb (show h.get? a=Z _ from x)
 |met f y=>exact bb (show h.get? a=Z _ from x)
 |ext l=>obtain⟨_,⟨_,e⟩,_⟩:=x;exact bb e
theorem Paired.mapP{e i:Type}{F G:e->i->Prop}:∀{c:List e} {d:List i},gU F c d->(∀a b,F a b->G a b)->gU G c d
 |_,_,.nil,_=>.nil
 |_,_,.cons r t,f=>.cons (f _ _ r) (Paired.mapP t f)
def en.S2(x:en P w H h a o)(k:∀b u,(b=a\/H b=Z (.f5 a))->h.get? b=Z u->h'.get? b=Z u)
  (I:∀b,H b=Z (.f5 a)->H' b=Z (.f5 a)) (J:∀b A,H b=Z (.a7 A)->H' b=Z (.a7 A)):en P w H' h' a o:=by
 induction o with
 |a3 A=>obtain⟨z,m,n,r,e⟩:=x;exact#v[z,m,n,r,k _ _ (.inl U) e]
 |a7 A=>obtain⟨z,m,r,⟨i,e,c⟩,f⟩:=x;exact#v[z,m,r,#v[i,k _ _ (.inl U) e,c],λW E=>by rw[k _ _ (.inl U) e]at E;cases E;exact f _ e]
 |dK kvs=>obtain⟨z,y,Q,r,i,l,j,e,c⟩:=x;exact#v[z,y,Q,r,i,l,j,k _ _ (.inl U) e,c]
 |dT kvs=>obtain⟨z,y,A,r,i,l,j,e,c⟩:=x;exact#v[z,y,A,Paired.mapP r λp q z=>#v[z.1,J _ _ z.2.1,z.2.2],i,l,j,k _ _ (.inl U) e,c]
 |set S n=>obtain⟨i,l,j,t,e,c⟩:=x;exact#v[i,l,j,t,k _ _ (.inl U) e,c]
 |ke C R fs=>obtain⟨d,z,N,e,mA,⟨B,l,j,G,c⟩,r⟩:=x;exact#v[I _ d,z,N,k _ _ (.inl U) e,mA,#v[B,l,j,k _ _ (.inr d) G,c],r]
 |f5 y=>obtain⟨i,e⟩:=x;exact#v[i,k _ _ (.inl U) e]
 |xd fs=>obtain⟨mA,⟨B,l,j,e,c⟩,r⟩:=x;exact#v[mA,#v[B,l,j,k _ _ (.inl U) e,c],r]
 |rng lo T=>obtain⟨t,u,v,e⟩:=x;exact#v[t,u,v,k _ _ (.inl U) e]
 |mr i u M=>obtain⟨e,q⟩:=x;exact#v[k _ _ (.inl U) e,M q]
 |tbl F=>have e:h.get? a=Z { cls:=.none,data:=.fields F }:=x;show h'.get? a=Z { cls:=.none,data:=.fields F };exact k a _ (.inl U) e
 |met f y=>have e:h.get? a=Z (nz (.ref f) (.ref y)):=x;show h'.get? a=Z (nz (.ref f) (.ref y));exact k a _ (.inl U) e
 |ext X=>obtain⟨p,⟨o,e⟩,st⟩:=x;exact#v[st _ _ p λo q=>k _ _ (.inl U) q,#v[o,k _ _ (.inl U) e],st]
theorem n3.lt(x:n3 P w H h)(e:H a=Z o):a<h.objs.size:=(x a o e).lt
def n3.fresh(x:n3 P w H h)(e:h.objs.size<=a):H a=O:=by
 cases q:H a with
 |none=>rfl
 |some u=>exact aq (cz (x.lt q) e) (fS _)
def n3.fh(x:n3 P w H h)(k:∀b u,h.get? b=Z u->h'.get? b=Z u):n3 P w H h':=λa o e=>
 (x a o e).S2 (λb u t q=>k b u q) (λt q=>q) λt t q=>q
def n3.laid(x:n3 P w H h)(k:∀b u,h.get? b=Z u->h'.get? b=Z u)(i:h.objs.size<=a)(new:en P w (ef H a o) h' a o):n3 P w (ef H a o) h':=λb u e=>by
 have f:=x.fresh i;by_cases d:b=a
 .subst d;rw[vI]at e;cases e;exact new
 .rw[vM d]at e;exact(x b u e).S2 (λc v t q=>k c v q) (λc q=>by rw[vM (yA q f)];exact q) λc j q=>by rw[vM (yA q f)];exact q
end
def Rd(H:Hp)(a:Addr)(u:HO):Prop:=H a=Z u\/∃o,H a=Z (.mr o u)
def Rd.ok(r:Rd H a u)(x:n3 P w H h):en P w H h a u:=by
 rcases r with r|⟨o,r⟩
 .exact x a u r
 .obtain⟨_,q⟩:=x a _ r;exact q
def Mut:Option HO->Prop
 |some (.a3 _)=>True
 |some (.dK _)=>True
 |some (.dT _)=>True
 |some (.set _ _)=>True
 |some (.ke _ _ _)=>True
 |some (.ext _)=>True
 |_=>False
section
variable{P:aL}{w:aE}{H:Hp}{h h':Heap}{x e:Addr}{o':HO}
def n3.sx(ok:n3 P w H h)(f:Mut (H x))(j:e=x\/H e=Z (.f5 x))(k:∀b u,b≠e->h.get? b=Z u->h'.get? b=Z u)(heo:∃u,h'.get? e=Z u)
  (new:en P w (ef H x o') h' x o'):n3 P w (ef H x o') h':=λb u q=>by
 have nown:∀c y,H c=Z (.f5 y)->c≠x:=λc y r z=>by subst z;rw[r]at f;exact f
 have ntup:∀c i,H c=Z (.a7 i)->c≠x:=λc i r z=>by subst z;rw[r]at f;exact f
 by_cases a:b=x
 .subst a;rw[vI]at q;cases q;exact new
 .rw[vM a]at q;by_cases hbe:b=e
  .have l:H b=Z (.f5 x):=by
    rcases j with z|z
    .exact aq (hbe.t z) a
    .rw[hbe];exact z
   rw[q]at l;cases l;obtain⟨v,m⟩:=heo;exact#v[v,by rw[hbe];exact m]
  .refine(ok b u q).S2 (λc v d r=>k c v ?_ r) (λc r=>by rw[vM (nown c b r)];exact r) λc i r=>by rw[vM (ntup c i r)];exact r
   rcases d with rfl|d
   .exact hbe
   .rintro rfl;rcases j with z|z
    .exact nown c b d z
    .rw[d]at z;cases z;exact a U
end
structure Un(fs ex:List Addr)(H H':Hp)(h h':Heap):Prop where
 keep:∀b o,h.get? b=Z o->H b=O->b∉fs->b∉ex->h'.get? b=Z o
 slot:∀b o,h.get? b=Z o->H b=O->b∈fs->b∉ex->∃sl,h'.get? b=Z { o with slots:=sl }
 free:∀b o,h.get? b=Z o->H b=O->b∉ex->H' b=O
 there:∀b o,h.get? b=Z o->b∉ex->∃o',h'.get? b=Z o'
 tX:∀b xs,H b=Z (.a7 xs)->H' b=Z (.a7 xs)
 vr:∀b o u,H b=Z (.mr o u)->H' b=Z (.mr o u)
 zE:∀b ps,H b=Z (.tbl ps)->∃more,H' b=Z (.tbl (ps++more))
section
variable{fs fs' ex ex':List Addr}{H H1 H2:Hp}{h h1 h2 h':Heap}{a x e:Addr}{o:HO}
def Un.any(u:Un fs ex H H1 h h1)(q:h.get? b=Z ob)(n:H b=O)(c:b∉ex):∃sl,h1.get? b=Z { ob with slots:=sl }:=by
 by_cases hb:b∈fs
 .exact u.slot b ob q n hb c
 .exact#v[ob.slots,u.keep b ob q n hb c]
def Un.fh(k:∀b u,h.get? b=Z u->h'.get? b=Z u):Un fs ex H H h h':=
 #v[λb c q t t t=>k b c q,λb c q t t t=>#v[c.slots,k b c q],λt t t n t=>n,λb c q t=>#v[c,k b c q],λt t q=>q,λt t t q=>q,λt d q=>#v[#[],by rw[q];simp]]
def Un.refl:Un fs ex H H h h:=Un.fh λt t q=>q
def Un.laid(k:∀b u,h.get? b=Z u->h'.get? b=Z u)(c:h.objs.size<=a)(hn:H a=O):Un fs ex H (ef H a o) h h' where
 keep:=λb u q t t t=>k b u q
 slot:=λb u q t t t=>#v[u.slots,k b u q]
 free:=λb u q n t=>by rw[vM (bj (cz (bb q) c))];exact n
 there:=λb u q t=>#v[u,k b u q]
 tX:=λb xs q=>by rw[vM (yA q hn)];exact q
 vr:=λb u xs q=>by rw[vM (yA q hn)];exact q
 zE:=λb ps q=>#v[#[],by rw[vM (yA q hn),q];simp]
def Un.sx(c:Mut (H x))(j:e=x\/H e=Z (.f5 x))(k:∀b u,b≠e->h.get? b=Z u->h'.get? b=Z u)(heo:∃u,h'.get? e=Z u):Un fs ex H (ef H x o) h h':=by
 have i:∀b,H b=O->b≠x:=λb n z=>by subst z;rw[n]at c;exact c
 have f:∀b,H b=O->b≠e:=λb n z=>by
  subst z;rcases j with r|r
  .exact i b n r
  .rw[n]at r;cases r
 have d:∀b u,H b=Z u->¬Mut (Z u)->b≠x:=λb u q l z=>by subst z;rw[q]at c;exact l c
 refine#v[λb u q n t t=>k b u (f b n) q,λb u q n t t=>#v[u.slots,k b u (f b n) q],λb u q n t=>by rw[vM (i b n)];exact n,λb u q t=>?_,
  λb m q=>by rw[vM (d b _ q λz=>z)];exact q,λb u m q=>by rw[vM (d b _ q λz=>z)];exact q,λb p q=>#v[#[],by rw[vM (d b _ q λz=>z),q];simp]]
 by_cases hbe:b=e
 .subst hbe;exact heo
 .exact#v[u,k b u hbe q]
end
def trk(h:Heap)(H:Hp):List Addr:=(aC h.objs.size).filter λa=>(H a).isSome
def Kw(h:Heap)(H:Hp):Heap:=W.hideAll h (trk h H)
def Qn(h:Heap)(H:Hp):(Kw h H).objs.size=h.objs.size:=W.hideAll_size _ _
def RK{h:Heap}(e:h.get? b=Z o)(n:H b=O):(Kw h H).get? b=Z o:=
 W.hideAll_get _ e λa=>by have q:(H b).isSome=γ:=(aQ.1 a).2;rw[n]at q;simp at q
def VL(e:(Kw h H).get? b=Z o):h.get? b=Z o/\H b=O:=by
 have a:h.get? b=Z o:=W.of_hideAll (trk h H) e;refine#v[a,?_];cases q:H b with
 |none=>rfl
 |some x=>have c:b∈trk h H:=aQ.2 #v[bB.2 (bb a),by simp[q]];have z:(Kw h H).get? b=O:=W.hideAll_none (trk h H) c;rw[z]at e;cases e
def VM(g h:Heap)(L:Addr):cO:=(aC h.objs.size).filterMap λa=>if a=L\/(g.get? a).isSome=γ then O else (h.get? a).map λo=>(a,o)
def et(g h:Heap)(L d:Addr):cO:=(VM g h L).filter λp=>decide (p.1≠d)
structure Mod(K:aw)(mg:Str->Option ab)(a5:Heap):Prop where
 kin:K.In a5
 vf:a5.Ns bN mg
 blt:∃mb,a5.Ns builtinsNs mb/\∀x:Str,x≠"__name__" -> mb x=ee x
 nolimit:a5.NoLimit
structure Cx where
 prog:aL
 w:aE
 K:aw
 mg:Str->Option ab
 a5:Heap
 A:aR
 N:aB
 s₀:af
 H₀:Hp
 a4:Env
 b4:List Env
 stack:List Env
 ex:List Addr
 fn:Str->Bool
 mi:Bool
 pn:cO
 xe:ab->af->Prop
def π(l:List Env):List Addr:=l.filterMap (·.frame)
abbrev Cx.fs(X:Cx):List Addr:=π X.b4
def Vis(a:cR)(x:Str):Prop:=a.names.lookup x=Z .local\/a.names.lookup x=Z .cell\/a.names.lookup x=Z .free
def Loc(a:cR)(x:Str):Prop:=a.names.lookup x=Z .local\/a.names.lookup x=Z .cell
def Look(a4:Env)(h:Heap)(m:Str->Option ab)(x:Str)(u:ab):Prop:=
 (a4.kindOf x=Z .local/\m x=Z u)\/((a4.kindOf x=Z .cell\/a4.kindOf x=Z .free)/\∃c,a4.cells.lookup x=Z c/\h.IsCell c (Z u))
structure Cx.Ok(X:Cx):Prop where
 w6:Mod X.K X.mg X.a5
 kind:X.a4.scope.kind=.function
 vf:X.a4.globals=bN
 blt:X.a4.builtins=builtinsNs
 above:X.s₀.heap.objs.size<=X.a4.locals
 inj:∀x y c,X.a4.cells.lookup x=Z c->X.a4.cells.lookup y=Z c->x=y
 has:∀x,(X.a4.kindOf x=Z .cell\/X.a4.kindOf x=Z .free)->∃c,X.a4.cells.lookup x=Z c
 cab:∀x c,X.fn x=γ->X.a4.cells.lookup x=Z c->X.s₀.heap.objs.size<=c
 hd:X.mi=γ->X.A.handled=O
 frames:X.A.frames=Z X.stack
 stk:X.stack=X.b4\/(X.stack=X.a4::X.b4/\X.a4.frame=Z X.a4.locals)
 exf:∀b∈X.ex,b≠X.a4.locals/\∀x c,X.a4.cells.lookup x=Z c->c≠b
 bs:∀b o,X.a5.get? b=Z o->X.s₀.heap.get? b=Z o/\X.H₀ b=O
 Y?:X.a5.objs.size<=X.s₀.heap.objs.size
 Q':∀b o,X.a5.get? b=Z o->b∉X.ex
 Pr:∀b∈X.ex,b∉X.fs
 qq:X.s₀.heap.FunFrames X.a5 X.b4
 frf:∀b∈X.fs,X.H₀ b=O
structure b0(X:Cx)(pins:cO)(σ:List (Option V))(H:Hp)(s:af):Prop where
 ok:X.Ok
 os:s.os=X.s₀.os
 i2:fE s.gens
 a5:Un X.fs X.ex X.H₀ H X.s₀.heap s.heap
 A6:∃m,s.heap.Ns X.a4.locals m/\∀(i:Nat) (x:Str) (v:V),X.N[i]?=Z x->σ[i]?=Z (Z v)->Vis X.a4.scope x->∃u,dd v u/\Look X.a4 s.heap m x u
 cell:∀x c,X.a4.cells.lookup x=Z c->∃v,s.heap.IsCell c v
 free:H X.a4.locals=O
 kb:∀x c,X.a4.cells.lookup x=Z c->H c=O
 Dx:∀p∈X.pn++pins,s.heap.get? p.1=Z p.2/\H p.1=O/\p.1≠X.a4.locals/\p.1∉X.fs/\∀v,p.2.data≠.cell v
 ew:n3 X.prog X.w H s.heap
 len:σ.length=X.N.length
section
variable{X:Cx}{pins:cO}{σ:List (Option V)}{H H':Hp}{s:af}{h':Heap}
def Cx.Ok.nofr(ok:X.Ok)(e:X.a5.get? b=Z o):b∉X.fs:=λa=>by have:=(ok.qq.mem a).1;rw[e]at this;cases this
theorem b0.bs(I:b0 X pins σ H s):∀b o,X.a5.get? b=Z o->s.heap.get? b=Z o/\H b=O:=λb o e=>
 #v[I.a5.keep b o (I.ok.bs b o e).1 (I.ok.bs b o e).2 (I.ok.nofr e) (I.ok.Q' b o e),I.a5.free b o (I.ok.bs b o e).1 (I.ok.bs b o e).2 (I.ok.Q' b o e)]
def b0.bk(I:b0 X pins σ H s):∀b o,X.a5.get? b=Z o->s.heap.get? b=Z o:=λb o e=>(I.bs b o e).1
theorem b0.w6(I:b0 X pins σ H s):Mod X.K X.mg X.a5:=I.ok.w6
def b0.ma(I:b0 X pins σ H s):X.K.In s.heap:=I.ok.w6.kin.keeps I.bk
def b0.fr(I:b0 X pins σ H s):∃m,Fr X.a5 X.a4.locals s.heap m:=
 let #v[m,a,_]:=I.A6
 #v[m,a,I.bk,bz I.ok.Y? I.ok.above]
theorem b0.lt(I:b0 X pins σ H s):X.a4.locals<s.heap.objs.size:=let #v[_,a,_]:=I.A6;a.lt
def b0.sz(I:b0 X pins σ H s):X.s₀.heap.objs.size<=s.heap.objs.size:=bz I.ok.above (iz I.lt)
def b0.nofs(I:b0 X pins σ H s)(h:s.heap.objs.size<=a):a∉X.fs:=λb=>by obtain⟨_,o,c,_⟩:=I.ok.qq.mem b;exact aq (cz (bb c) (bz I.sz h)) (fS _)
def b0.cne(I:b0 X pins σ H s):∀x c,X.a4.cells.lookup x=Z c->c≠X.a4.locals:=λx c e z=>by obtain⟨v,o,d,hd⟩:=I.cell x c e;obtain⟨m,⟨i,h,f,b,a,_⟩,_⟩:=I.A6;rw[z,b]at d;cases d;rw[a]at hd;cases hd
theorem b0.qq(I:b0 X pins σ H s):s.heap.FunFrames X.a5 X.b4:=by
 have all:∀(l:List Env),(∀b∈π l,b∈X.fs)->X.s₀.heap.FunFrames X.a5 l->s.heap.FunFrames X.a5 l:=by
  intro l
  induction l with
  |nil=>intro _ _;trivial
  |cons a4 r p=>intro d h;obtain⟨f,⟨L,o,c,i,j,hd⟩,m⟩:=h;have hL:L∈X.fs:=d L (by unfold π;rw[eU,c];exact ba);obtain⟨q,e⟩:=I.a5.slot L o j (I.ok.frf L hL) hL λz=>I.ok.Pr L z hL;exact#v[f,#v[L,_,c,i,e,hd],p (λb a=>d b (by unfold π;rw[eU,c];exact a9 _ a)) m]
 exact all X.b4 (λt a=>a) I.ok.qq
theorem b0.stack(I:b0 X pins σ H s):s.heap.FunFrames X.a5 X.stack:=by
 rcases I.ok.stk with e|⟨e,a⟩
 .rw[e];exact I.qq
 .rw[e];obtain⟨m,b,_⟩:=I.A6;refine .cons (by rw[I.ok.kind];decide) a b ?_ I.qq;exact Heap.get?_none_of_le (bz I.ok.Y? I.ok.above)
def b0.Gn(I:b0 X pins σ H s):∀b∈π X.stack,b∈X.a4.locals::X.fs:=λb a=>by
 rcases I.ok.stk with e|⟨e,c⟩
 .rw[e]at a;exact a9 _ a
 .rw[e]at a;unfold π at a;rw[eU,c]at a;exact a
def b0.K3(I:b0 X pins σ H s):∀b∈π X.stack,H b=O:=λb hb=>by
 rcases aM.1 (I.Gn b hb)with e|hb
 .rw[e];exact I.free
 .obtain⟨_,o,a,_⟩:=I.ok.qq.mem hb;exact I.a5.free b o a (I.ok.frf b hb) λz=>I.ok.Pr b z hb
def b0.step{g':Array gV}{t':Nat}{d':Drawn}{ch:List Addr}(I:b0 X pins σ H s)
  (hch:∀b∈ch,(b∈X.ex\/X.s₀.heap.objs.size<=b)/\b≠X.a4.locals/\(∀x c,X.a4.cells.lookup x=Z c->c≠b)/\∀p∈X.pn++pins,p.1≠b)
  (keep:∀b o,b≠X.a4.locals->b∉X.fs->b∉ch->s.heap.get? b=Z o->H b=O->h'.get? b=Z o)
  (slot:∀b o,b≠X.a4.locals->b∈X.fs->b∉ch->s.heap.get? b=Z o->H b=O->∃sl,h'.get? b=Z { o with slots:=sl }) (free:∀b o,b∉ch->s.heap.get? b=Z o->H b=O->H' b=O)
  (there:∀b o,b∉ch->s.heap.get? b=Z o->∃t,h'.get? b=Z t)
  (tX:∀b xs,H b=Z (.a7 xs)->H' b=Z (.a7 xs)) (vr:∀b o u,H b=Z (.mr o u)->H' b=Z (.mr o u)) (zE:∀b ps,H b=Z (.tbl ps)->∃more,H' b=Z (.tbl (ps++more)))
  (ns:∀m,s.heap.Ns X.a4.locals m->h'.Ns X.a4.locals m) (ew:n3 X.prog X.w H' h') (hg:fE g'):
  b0 X pins σ H' { s with heap:=h',gens:=g',drawn:=d',toks:=t' }:=by
 have neL:∀b o,X.s₀.heap.get? b=Z o->b≠X.a4.locals:=λb o e=>bj (cz (bb e) I.ok.above);have neC:∀b o,X.s₀.heap.get? b=Z o->b∉X.ex->b∉ch:=λb o e a hb=>by
  rcases(hch b hb).1 with z|z
  .exact a z
  .exact aq (cz (bb e) z) (fS _)
 have cellK:∀x c,X.a4.cells.lookup x=Z c->∀v,s.heap.IsCell c v->h'.IsCell c v:=λx c e v #v[o,h,hd]=>by
  have nch:c∉ch:=λz=>(hch c z).2.2.1 x c e U;by_cases A:c∈X.fs
  .obtain⟨sl,q⟩:=slot c o (I.cne x c e) A nch h (I.kb x c e);exact#v[_,q,hd]
  .exact#v[o,keep c o (I.cne x c e) A nch h (I.kb x c e),hd]
 refine#v[I.ok,I.os,hg,#v[λb o e n hb a=>?_,λb o e n hb a=>?_,λb o e n a=>?_,λb o e a=>?_,λb xs e=>tX b xs (I.a5.tX b xs e),λb o xs e=>vr b o xs (I.a5.vr b o xs e),λb ps e=>?_],?_,λx c e=>?_,?_,λx c e=>?_,λp B=>?_,ew,I.len]
 .exact keep b o (neL b o e) hb (neC b o e a) (I.a5.keep b o e n hb a) (I.a5.free b o e n a)
 .obtain⟨sl,f⟩:=I.a5.slot b o e n hb a;obtain⟨y,j⟩:=slot b _ (neL b o e) hb (neC b o e a) f (I.a5.free b o e n a);exact#v[y,j]
 .obtain⟨t,f⟩:=I.a5.there b o e a;exact free b t (neC b o e a) f (I.a5.free b o e n a)
 .obtain⟨t,f⟩:=I.a5.there b o e a;exact there b t (neC b o e a) f
 .obtain⟨F,f⟩:=I.a5.zE b ps e;obtain⟨G,j⟩:=zE b _ f;exact#v[F++G,by rw[j,Array.append_assoc]]
 .obtain⟨m,hn,E⟩:=I.A6;refine#v[m,ns m hn,λi x v f j C=>?_];obtain⟨u,r,l⟩:=E i x v f j C;refine#v[u,r,?_];rcases l with l|⟨k,c,e,z⟩
  .exact .inl l
  .exact .inr #v[k,c,e,cellK x c e _ z]
 .obtain⟨v,z⟩:=I.cell x c e;exact#v[v,cellK x c e v z]
 .obtain⟨m,⟨o,_,_,h,_⟩,_⟩:=I.A6;exact free _ o (λz=>(hch _ z).2.1 U) h I.free
 .obtain⟨v,o,h,hd⟩:=I.cell x c e;exact free c o (λz=>(hch c z).2.2.1 x c e U) h (I.kb x c e)
 .obtain⟨e,n,ne,nf,d⟩:=I.Dx p B;have nch:p.1∉ch:=λz=>(hch p.1 z).2.2.2 p B U;exact#v[keep p.1 p.2 ne nf nch e n,free p.1 p.2 nch e n,ne,nf,d]
def b0.un(I:b0 X pins σ H s)(u:Un X.fs [] H H' s.heap h')(ew:n3 X.prog X.w H' h'):b0 X pins σ H' { s with heap:=h',toks:=t' }:=by
 obtain⟨m,⟨o,es,ep,f,r⟩,_⟩:=id I.A6;obtain⟨sl,hL⟩:=u.any f I.free (by simp);exact I.step (g':=s.gens) (d':=s.drawn) (ch:=[]) (λt z=>nomatch z) (λb o t hb t e n=>u.keep b o e n hb (by simp)) (λb o t hb t e n=>u.slot b o e n hb (by simp)) (λb o t e n=>u.free b o e n (by simp)) (λb o t e=>u.there b o e (by simp)) u.tX u.vr u.zE (λl hm=>by
  obtain⟨p,d,c,a,h⟩:=hm;rw[f]at a;cases a;exact#v[_,d,c,hL,h]) ew I.i2
def b0.call(I:b0 X pins σ H s)(u:Un (π X.stack) ch H H' s.heap h')(ew:n3 X.prog X.w H' h')(hg:fE g')
  (hch:∀b∈ch,(b∈X.ex\/X.s₀.heap.objs.size<=b)/\b≠X.a4.locals/\(∀x c,X.a4.cells.lookup x=Z c->c≠b)/\∀p∈X.pn++pins,p.1≠b):
  b0 X pins σ H' { s with heap:=h',gens:=g',drawn:=d',toks:=t' }:=by
 obtain⟨m,⟨o,es,ep,i,r⟩,_⟩:=id I.A6;obtain⟨sl,hL⟩:=u.any i I.free λz=>(hch _ z).2.1 U;exact I.step (ch:=ch) hch (λb o hL hb a e n=>u.keep b o e n (λz=>(aM.1 (I.Gn b z)).elim hL hb) a) (λb o t t a e n=>u.any e n a) (λb o a e n=>u.free b o e n a) (λb o a e=>u.there b o e a) u.tX u.vr u.zE (λl hm=>by
  obtain⟨q,h,f,d,j⟩:=hm;rw[i]at d;cases d;exact#v[_,h,f,hL,j]) ew hg
def b0.ix(I:b0 X pins σ H s)(k:∀b o,b≠it->s.heap.get? b=Z o->h'.get? b=Z o)(hn:H it=O)(hL:it≠X.a4.locals)
  (h1:it∈X.ex\/X.s₀.heap.objs.size<=it) (h2:∀x c,X.a4.cells.lookup x=Z c->c≠it) (h3:∀p∈X.pn++pins,p.1≠it):b0 X pins σ H { s with heap:=h',toks:=t' }:=by
 have nit:∀b u,H b=Z u->b≠it:=λb u e z=>by rw[z,hn]at e;cases e
 refine I.step (g':=s.gens) (d':=s.drawn) (ch:=[it]) (λb hb=>?_) (λb o t t a e t=>k b o (λz=>a (by simp[z])) e) (λb o t t a e t=>#v[o.slots,k b o (λz=>a (by simp[z])) e]) (λt t t t n=>n)
  (λb o a e=>#v[o,k b o (λz=>a (by simp[z])) e]) (λt t e=>e) (λt t t e=>e) (λb ps e=>#v[#[],by rw[e];simp]) (λm hm=>?_) (λb u e=>?_) I.i2
 .have e:b=it:=by simpa using hb
  subst e;exact#v[h1,hL,h2,h3]
 .obtain⟨o,es,ep,d,r⟩:=hm;exact#v[o,es,ep,k _ o (dR hL) d,r]
 .refine(I.ew b u e).S2 (λc v a q=>k c v ?_ q) (λt q=>q) λt t q=>q;rcases a with z|z
  .rw[z];exact nit b u e
  .exact nit c _ z
def b0.ri(I:b0 X pins σ H s)(t:Nat):b0 X pins σ H { s with toks:=t }:=I.un (h':=s.heap) (t':=t) Un.refl I.ew
theorem b0.fh(I:b0 X pins σ H s)(k:∀b u,s.heap.get? b=Z u->h'.get? b=Z u):b0 X pins σ H { s with heap:=h',toks:=t' }:=I.un (Un.fh k) (I.ew.fh k)
theorem b0.laid(I:b0 X pins σ H s)(k:∀b u,s.heap.get? b=Z u->h'.get? b=Z u)(c:s.heap.objs.size<=a)(new:en X.prog X.w (ef H a o) h' a o):
  b0 X pins σ (ef H a o) { s with heap:=h',toks:=t' }:=I.un (Un.laid k c (I.ew.fresh c)) (I.ew.laid k c new)
theorem b0.sx(I:b0 X pins σ H s)(c:Mut (H x))(a:e=x\/H e=Z (.f5 x))(k:∀b u,b≠e->s.heap.get? b=Z u->h'.get? b=Z u)(heo:∃u,h'.get? e=Z u)
  (new:en X.prog X.w (ef H x o) h' x o):b0 X pins σ (ef H x o) { s with heap:=h',toks:=d }:=I.un (Un.sx c a k heo) (I.ew.sx c a k heo new)
def b0.b?{a:List (Option V)}(I:b0 X pins σ H s)(f:a.length=σ.length)(w:∀(i:Nat) v,a[i]?=Z (Z v)->σ[i]?=Z (Z v)):b0 X pins a H s:=
 #v[I.ok,I.os,I.i2,I.a5,let #v[m,h,b]:=I.A6;#v[m,h,λi x v c d e=>b i x v c (w i v d) e],I.cell,I.free,I.kb,I.Dx,I.ew,f.t I.len]
def b0.Mn(I:b0 X pins σ H s)(h:∀p∈a,s.heap.get? p.1=Z p.2/\H p.1=O/\p.1≠X.a4.locals/\p.1∉X.fs/\∀v,p.2.data≠.cell v):b0 X a σ H s:=
 #v[I.ok,I.os,I.i2,I.a5,I.A6,I.cell,I.free,I.kb,λp b=>(aZ.1 b).elim (λz=>I.Dx p (bC _ z)) (h p),I.ew,I.len]
def LS{N:aB}(hN:N.Nodup){i j:Nat}{x:Str}(a:N[i]?=Z x)(b:N[j]?=Z x):i=j:=by obtain⟨e,c⟩:=bY.1 a;obtain⟨f,d⟩:=bY.1 b;exact(jZ hN).1 (c.t d.symm)
def Qo(I:b0 X pins σ H s)(hN:X.N.Nodup)(hi:X.N[i]?=Z x)(t:Loc X.a4.scope x)(r:dd v u)
  (h:∀s',b0 X pins (σ.set i (Z v)) H s'->(∃a,eh a s.heap s'.heap/\(a=X.a4.locals\/X.a4.cells.lookup x=Z a))->Q () s') (hf:autoParam (X.fn x=γ\/X.a4.scope.names.lookup x=Z .local) zA2._auto_1):ao M A (storeName X.a4 x u) Q E s:=by
 obtain⟨m,hn,hl⟩:=id I.A6;have hcls:(X.a4.scope.kind==.class||(X.a4.scope.kind==.module&&X.a4.locals != X.a4.globals))=δ:=by rw[I.ok.kind];rfl
 have hiσ:i<σ.length:=by rw[I.len];exact(bY.1 hi).1
 have cne:=I.cne;have tracked:∀{a:Addr} {h':Heap},(∃o,s.heap.get? a=Z o/\H a=O)->eh a s.heap h'->n3 X.prog X.w H h':=λ{a h'} ha hs b ob e=>by
  obtain⟨_,_,hfree⟩:=ha;refine(I.ew b ob e).S2 (λc P l q=>(hs.2 c ?_).t q) (λ_ q=>q) λ_ _ q=>q;rintro rfl;rcases l with rfl|l
  .rw[hfree]at e;cases e
  .rw[hfree]at l;cases l
 rcases t with C|C
 .refine wpAny_storeName_local C hn (λh' S hs=>?_) hcls;obtain⟨oL,_,_,hoL,_⟩:=id hn;refine h _ #v[I.ok,I.os,I.i2,#v[λb o e n hb t=>?_,λb o e n hb t=>?_,I.a5.free,λb o e t=>?_,I.a5.tX,I.a5.vr,I.a5.zE],#v[_,S,λj y v' f B R=>?_],λy c e=>?_,I.free,I.kb,λp T=>?_,tracked #v[oL,hoL,I.free] hs,by simpa using I.len] #v[_,hs,.inl U]
  .exact(hs.2 b (bj (cz (bb e) I.ok.above))).t (I.a5.keep b o e n hb t)
  .obtain⟨sl,f⟩:=I.a5.slot b o e n hb t;exact#v[sl,(hs.2 b (bj (cz (bb e) I.ok.above))).t f]
  .obtain⟨W,f⟩:=I.a5.there b o e t;exact#v[W,(hs.2 b (bj (cz (bb e) I.ok.above))).t f]
  .by_cases F:j=i
   .subst F;rw[hi]at f;cases f;rw[jL hiσ]at B;cases B;exact#v[u,r,.inl #v[C,by simp]]
   .rw[lD (dR F)]at B;obtain⟨u',Y,q⟩:=hl j y v' f B R;refine#v[u',Y,?_];rcases q with ⟨k,e⟩|⟨k,c,e,z⟩
    .refine .inl #v[k,?_];have:y≠x:=λe=>F (LS hN f (e▸hi));simp[this,e]
    .exact .inr #v[k,c,e,z.sameBut hs (cne y c e)]
  .obtain⟨P,z⟩:=I.cell y c e;exact#v[P,z.sameBut hs (cne y c e)]
  .obtain⟨e,n,ne,nf,d⟩:=I.Dx p T;exact#v[(hs.2 p.1 ne).t e,n,ne,nf,d]
 .have hfn:X.fn x=γ:=by
   rcases hf with z|z
   .exact z
   .rw[z]at C;cases C
  obtain⟨c,l⟩:=I.ok.has x (.inl C);obtain⟨P,z⟩:=I.cell x c l;refine wpAny_storeName_cell I.ok.kind C l z (λh' G hs=>?_);obtain⟨oc,hoc,hocd⟩:=id z;refine h { s with heap:=h' } #v[I.ok,I.os,I.i2,#v[λb o e n hb t=>?_,λb o e n hb t=>?_,I.a5.free,λb o e t=>?_,I.a5.tX,I.a5.vr,I.a5.zE],#v[m,hn.sameBut hs (dR (cne x c l)),λj y v' f B R=>?_],λy J e=>?_,I.free,I.kb,λp T=>?_,tracked #v[oc,hoc,I.kb x c l] hs,by simpa using I.len] #v[c,hs,.inr l]
  .exact(hs.2 b (bj (cz (bb e) (I.ok.cab x c hfn l)))).t (I.a5.keep b o e n hb t)
  .obtain⟨sl,f⟩:=I.a5.slot b o e n hb t;exact#v[sl,(hs.2 b (bj (cz (bb e) (I.ok.cab x c hfn l)))).t f]
  .obtain⟨W,f⟩:=I.a5.there b o e t;exact#v[W,(hs.2 b (bj (cz (bb e) (I.ok.cab x c hfn l)))).t f]
  .by_cases F:j=i
   .subst F;rw[hi]at f;cases f;rw[jL hiσ]at B;cases B;exact#v[u,r,.inr #v[.inl C,c,l,G]]
   .rw[lD (dR F)]at B;obtain⟨u',Y,q⟩:=hl j y v' f B R;refine#v[u',Y,?_];rcases q with q|⟨k,J,e,z'⟩
    .exact .inl q
    .refine .inr #v[k,J,e,z'.sameBut hs ?_];rintro rfl;exact F (LS hN f (I.ok.inj _ _ _ e l▸hi))
  .by_cases hcc:J=c
   .subst hcc;exact#v[_,G]
   .obtain⟨w2,z2⟩:=I.cell y J e;exact#v[w2,z2.sameBut hs hcc]
  .obtain⟨e,n,ne,nf,d⟩:=I.Dx p T;refine#v[(hs.2 p.1 ?_).t e,n,ne,nf,d];intro q;rw[q,hoc]at e;have q':oc=p.2:=cW e;exact d P (by rw[<-q'];exact hocd)
def LU(I:b0 X pins σ H s)(hN:X.N.Nodup)(d:X.N[i]?=Z x)(e:Loc X.a4.scope x)(r:dd v u)
  (h:∀a,b0 X pins (σ.set i (Z v)) H a->Q () a) (c:autoParam (X.fn x=γ\/X.a4.scope.names.lookup x=Z .local) zA2._auto_1):ao M A (storeName X.a4 x u) Q E s:=
 Qo I hN d e r (λa b t=>h a b) c
def b0.call'{a:af}(I:b0 X pins σ H s)(l:a.os=s.os)(u:Un (π X.stack) i H H' s.heap a.heap)(ew:n3 X.prog X.w H' a.heap)(j:fE a.gens)
  (hch:∀b∈i,(b∈X.ex\/X.s₀.heap.objs.size<=b)/\b≠X.a4.locals/\(∀x c,X.a4.cells.lookup x=Z c->c≠b)/\∀p∈X.pn++pins,p.1≠b):b0 X pins σ H' a:=by
 obtain⟨h',f,d,h,m⟩:=a;have e:m=s.os:=l;subst e;exact I.call (g':=f) (t':=h) (d':=d) u ew j hch
end
abbrev XK:=ab->Option Addr->Hp->Prop
abbrev St:=List (Option V)
abbrev VK:=V->Hp->Prop
abbrev TE:=St->Hp->VK->Prop
abbrev TT:=St->Hp->(Bool->Hp->Prop)->Prop
abbrev TA:=St->Hp->(bF->Hp->Prop)->Prop
structure B? where
 nx:St->Hp->Prop
 rt:VK
 bk:St->Hp->Prop:=λt t=>False
 ct:St->Hp->Prop:=λt t=>False
abbrev TS:=B?->St->Hp->Prop
def EP(X:Cx)(a:cO)(d:St)(Q:VK)(u:ab)(c:af):Prop:=∃v b,b0 X a d b c/\dd v u/\Q v b
def TP(X:Cx)(a:cO)(e:St)(Q:Bool->Hp->Prop)(b:Bool)(d:af):Prop:=∃c,b0 X a e c d/\Q b c
def AP(X:Cx)(a:cO)(f:St)(Q:bF->Hp->Prop)(e:List ab)(d:af):Prop:=∃c b,b0 X a f b d/\c6 c e/\Q c b
def SP(X:Cx)(b:cO)(D:B?)(f:Flow)(d:af):Prop:=
 match f with
 |.next=>∃a c,b0 X b a c d/\D.nx a c
 |.brk=>∃a c,b0 X b a c d/\D.bk a c
 |.cont=>∃a c,b0 X b a c d/\D.ct a c
 |.ret u=>∃v a c,b0 X b a c d/\dd v u/\D.rt v c
def PE(X:Cx)(e:Expr)(t:TE):Prop:=
 ∀(a:cO) (s:af) (b:St) (H:Hp) (Q:VK),b0 X a b H s->t b H Q->ao (model X.prog X.w) X.A (eval e X.a4) (EP X a b Q) X.xe s
def PT(X:Cx)(e:Expr)(t:TT):Prop:=
 ∀(a:cO) (s:af) (b:St) (H:Hp) (Q:Bool->Hp->Prop),b0 X a b H s->t b H Q->ao (model X.prog X.w) X.A (isTrue e X.a4 (eval e X.a4)) (TP X a b Q) X.xe s
def PW(X:Cx)(e:Expr)(t:TT):Prop:=
 ∀(whole:Sem ab) (a:cO) (s:af) (b:St) (H:Hp) (Q:Bool->Hp->Prop),b0 X a b H s->t b H Q->ao (model X.prog X.w) X.A (isTrue e X.a4 whole) (TP X a b Q) X.xe s
def PW.pt(h:PW X e t):PT X e t:=h _
def PA(X:Cx)(c:List Expr)(t:TA):Prop:=
 ∀(pos:Pos) (a:cO) (s:af) (b:St) (H:Hp) (Q:bF->Hp->Prop),b0 X a b H s->t b H Q->ao (model X.prog X.w) X.A (spliced (bO pos (aF c X.a4))) (AP X a b Q) X.xe s
def PS(X:Cx)(st:Stmt)(t:TS):Prop:=
 ∀(a:cO) (s:af) (b:St) (H:Hp) (D:B?),b0 X a b H s->t D b H->ao (model X.prog X.w) X.A (exec st X.a4) (SP X a D) X.xe s
def m?(X:Cx)(st:List Stmt)(t:TS):Prop:=
 ∀(a:cO) (s:af) (b:St) (H:Hp) (D:B?),b0 X a b H s->t D b H->ao (model X.prog X.w) X.A (execs st X.a4) (SP X a D) X.xe s
def e3{c:Type}{t:Sem c}{Q b:c->af->Prop}{M:Model}{A:aR}{E:ab->af->Prop}{s:af}(h:ao M A t Q E s)(hQ:∀a s,Q a s->b a s):ao M A t b E s:=cA h hQ λf f x=>x
section
variable{X:Cx}
def bin{a b:Expr}{o tb:TE}(t:PE X a o)(z:PE X b tb){c:cO}{s:af}{e:St}{H:Hp}{R:V->V->Hp->Prop}(I:b0 X c e H s)(h:o e H λx m=>tb e m λy d=>R x y d)
  {p:Type} {Q:p->af->Prop} {f:ab->ab->Sem p}
  (B:∀v u l x y d,b0 X c e d l->dd x v->dd y u->R x y d->ao (model X.prog X.w) X.A (f v u) Q X.xe l):
  ao (model X.prog X.w) X.A (eval a X.a4) (λv i=>ao (model X.prog X.w) X.A (eval b X.a4) (λu j=>ao (model X.prog X.w) X.A (f v u) Q X.xe j) X.xe i) X.xe s:=by
 refine e3 (t c s e H _ I h) λv J zz=>?_;obtain⟨x,m,q,F,C⟩:=zz;refine e3 (z c J e m _ q C) λu l zz=>?_;obtain⟨y,d,r,G,E⟩:=zz;exact B v u l x y d r F G E
inductive Yh(i:Nat) (σ:St) (H:Hp) (Q:VK):Prop
 |i (v) (h0:σ[i]?=Z (Z v)) (h1:Q v H):Yh i σ H Q
def EE(i:Nat):TE:=λa H Q=>Yh i a H Q
def tC(v:V):TE:=λt H Q=>Q v H
def Zk(hN:X.N[i]?=Z x)(p:Vis X.a4.scope x)(hd:autoParam ((x==("__debug__" : Str))=δ) zA1._auto_1)(hcd:autoParam ((x==("__classdict__" : Str))=δ) zA1._auto_1):PE X (.Name x pos) (EE i):=by
 intro b s q H Q I h;obtain⟨v,e,h⟩:=h;obtain⟨m,o,f⟩:=I.A6;obtain⟨u,r,l⟩:=f i x v hN e p;have fin:EP X b q Q u s:=#v[v,H,I,r,h];rcases l with ⟨a,j⟩|⟨a,c,d,hcell⟩
 .exact nI (wpAny_loadName_local I.ok.kind a o j fin) hd
 .rcases a with a|a
  .exact nI (wpAny_loadName_cell I.ok.kind a d hcell fin) hd
  .exact nI (wpAny_loadName_free I.ok.kind a d hcell fin hcd) hd
def RM{i j pos}:PE X (.Constant (.int i) j pos) (tC (.int i)):=λt t t H t I h=>wpAny_Constant_int #v[.int i,H,I.ri _,#v[_,U],h]
def adj{b j pos}:PE X (.Constant (.bool b) j pos) (tC (.X b)):=λt t t H t I h=>Constant_bool #v[.X b,H,I,U,h]
def Zl{j pos}:PE X (.Constant .none j pos) (tC .U):=λt t t H t I h=>Constant_none #v[.U,H,I,U,h]
def RN{x j pos}:PE X (.Constant (.str x) j pos) (tC (.str x)):=λt t t H t I h=>Calls.Constant_str #v[.str x,H,I.ri _,#v[_,U],h]
def Gl(X:Cx)(x:Str):Prop:=X.a4.kindOf x=Z .globalImplicit
def E6(I:b0 X a d H s)(b:Gl X x)(c:X.mg x=Z u)(h:Q u s)
  (hd:autoParam ((x==("__debug__" : Str))=δ) zA1._auto_1):ao (model X.prog X.w) X.A (eval (.Name x pos) X.a4) Q E s:=
 oA I.ok.kind b (Calls.loadGlobal_global (by rw[I.ok.vf];exact I.w6.vf.keeps I.bk) c h) hd
def Cn(I:b0 X a l H s)(d:Gl X x)(e:X.mg x=O)(i:ee x=Z u)(h:Q u s)
  (f:autoParam (x≠"__name__") zA1._auto_1) (hd:autoParam ((x==("__debug__" : Str))=δ) zA1._auto_1):ao (model X.prog X.w) X.A (eval (.Name x pos) X.a4) Q E s:=by
 obtain⟨j,b,c⟩:=I.w6.blt;exact oA I.ok.kind d (Calls.loadGlobal_builtin (by rw[I.ok.vf];exact I.w6.vf.keeps I.bk) e (by rw[I.ok.blt];exact b.keeps I.bk) ((c x f).t i) h) hd
def HJ(a:Gl X x)(b:X.mg x=Z u)(r:dd v u)(hd:autoParam ((x==("__debug__" : Str))=δ) zA1._auto_1):PE X (.Name x pos) (tC v):=
 λt t t H t I h=>E6 I a b #v[v,H,I,r,h] hd
def VN(a:Gl X x)(b:X.mg x=O)(d:ee x=Z u)(r:dd v u)(c:autoParam (x≠"__name__") zA1._auto_1)(hd:autoParam ((x==("__debug__" : Str))=δ) zA1._auto_1):PE X (.Name x pos) (tC v):=
 λt t t H t I h=>Cn I a b d #v[v,H,I,r,h] c hd
variable{a b:Expr}{ta tb:TE}{pos:Pos}
def PC(X:Cx)(h:CmpOp)(a b:Expr)(t:TE):Prop:=
 ∀(c:cO) (s:af) (f:St) (H:Hp) (Q:VK),b0 X c f H s->t f H Q->
  ao (model X.prog X.w) X.A (eval a X.a4) (λv d=>ao (model X.prog X.w) X.A (eval b X.a4) (λu e=>ao (model X.prog X.w) X.A (bD h v u) (EP X c f Q) X.xe e) X.xe d) X.xe s
def tB(t:TE):TT:=λe H Q=>t e H λx d=>∃c,x=.X c/\Q c d
def afD(h:PC X i a b t)(f:gE i b=δ:=by first|exact nobehind _ (by decide) (by decide)|rfl):PT X (.Compare a [i] [b] pos) (tB t):=by intro e s w H Q I o;refine o4 (e3 (h e s w H _ I o) λv y f=>e3 f λu z m=>e3 m λc A zz=>?_) f;obtain⟨x,j,l,r,p⟩:=zz;obtain⟨d,rfl,q⟩:=p;cases r;exact dG #v[j,l,q]
def Zm(h:PE X e t)(j:autoParam (∀whole,isTrue e X.a4 whole=(do let v<-whole;standAt e.pos;holding [v] (truthy v))) zA3._auto_1):PT X e (tB t):=by intro c s p H Q I l;refine isTrue_plain (e3 (h c s p H _ I l) λv r zz=>?_) (j _);obtain⟨x,f,i,o,m⟩:=zz;obtain⟨d,rfl,q⟩:=m;cases o;exact dG #v[f,i,q]
variable{tA tB':TT}{et:List Expr}
def tAnd(t u:TT):TT:=λe H Q=>t e H λc d=>if c=γ then u e d Q else Q δ d
def tOr(t u:TT):TT:=λe H Q=>t e H λc d=>if c=γ then Q γ d else u e d Q
def tNot(t:TT):TT:=λe H Q=>t e H λc d=>Q (!c) d
def VO(f:PT X a tA):PW X (.BoolOp .And [a] pos) tA:=by
 intro l d s i H Q I h;refine isTrue_and (e3 (f d s i H Q I h) λc j e=>?_);cases c with
 |true=>exact isTrue_and_nil e
 |false=>exact e
def Zn(f:PT X a tA):PW X (.BoolOp .Or [a] pos) tA:=by
 intro l d s i H Q I h;refine isTrue_or (e3 (f d s i H Q I h) λc j e=>?_);cases c with
 |false=>exact isTrue_or_nil e
 |true=>exact e
def Zo(l:PT X a tA)(m:PW X (.BoolOp .And (b::et) pos) tB'):PW X (.BoolOp .And (a::b::et) pos) (tAnd tA tB'):=by
 intro p d s j H Q I h;refine isTrue_and (e3 (l d s j H _ I h) λc o zz=>?_);obtain⟨e,f,i⟩:=zz;cases c with
 |true=>exact m p d o j e Q f i
 |false=>exact#v[e,f,i]
def adl(l:PT X a tA)(m:PW X (.BoolOp .Or (b::et) pos) tB'):PW X (.BoolOp .Or (a::b::et) pos) (tOr tA tB'):=by
 intro p d s j H Q I h;refine isTrue_or (e3 (l d s j H _ I h) λc o zz=>?_);obtain⟨e,f,i⟩:=zz;cases c with
 |true=>exact#v[e,f,i]
 |false=>exact m p d o j e Q f i
def Zp(f:PT X a tA):PT X (.UnaryOp .Not a pos) (tNot tA):=by intro d s i H Q I h;exact isTrue_not (f d s i H (λc e=>Q (!c) e) I h)
def adm(ta tb:TE):TE:=λe H Q=>ta e H λx d=>∃c,x=.X c/\if c=γ then tb e d Q else Q (.X δ) d
def tOrV(ta tb:TE):TE:=λe H Q=>ta e H λx d=>∃c,x=.X c/\if c=γ then Q (.X γ) d else tb e d Q
def adn(ta:TE):TE:=λe H Q=>ta e H λx d=>∃c,x=.X c/\Q (.X (!c)) d
def Zq{e}(h:PE X a t):PE X (.BoolOp e [a] pos) t:=λc s f H Q I d=>BoolOp_one (h c s f H Q I d)
def Zr(l:PE X a ta)(m:PE X (.BoolOp .And (b::et) pos) tb):PE X (.BoolOp .And (a::b::et) pos) (adm ta tb):=by
 intro d s j H Q I h;refine BoolOp_and (e3 (l d s j H _ I h) λv p zz=>?_);obtain⟨x,f,i,o,e⟩:=zz;obtain⟨c,rfl,e⟩:=e;cases o;refine dG ?_;cases c with
 |true=>exact m d p j f Q i e
 |false=>exact#v[.X δ,f,i,U,e]
def ado(l:PE X a ta)(m:PE X (.BoolOp .Or (b::et) pos) tb):PE X (.BoolOp .Or (a::b::et) pos) (tOrV ta tb):=by
 intro d s j H Q I h;refine BoolOp_or (e3 (l d s j H _ I h) λv p zz=>?_);obtain⟨x,f,i,o,e⟩:=zz;obtain⟨c,rfl,e⟩:=e;cases o;refine dG ?_;cases c with
 |false=>exact m d p j f Q i e
 |true=>exact#v[.X γ,f,i,U,e]
def Zs(j:PE X a ta):PE X (.UnaryOp .Not a pos) (adn ta):=by intro d s m H Q I h;refine UnaryOp_ (e3 (j d s m H _ I h) λv o zz=>?_);obtain⟨x,f,i,l,e⟩:=zz;obtain⟨c,rfl,e⟩:=e;cases l;exact not_of (dG #v[.X (!c),f,i,U,e])
def tIf(t:TT)(ta tb:TE):TE:=λd H Q=>t d H λc e=>if c=γ then ta d e Q else tb d e Q
def RO(q:PT X c tA)(o:PE X a ta)(p:PE X b tb):PE X (.IfExp c a b pos) (tIf tA ta tb):=by
 intro e s f H Q I h;refine wpAny_IfExp (e3 (q e s f H _ I h) λd m zz=>?_);obtain⟨i,j,l⟩:=zz;cases d with
 |true=>exact o e m f i Q j l
 |false=>exact p e m f i Q j l
end
def e8(K:aw)(H:Hp)(a:Addr)(c:bF):Prop:=
 Rd H a (.a3 c)\/
  ∃(o:Obj) (b:Array ab) (n:Nat),K.lookup a=Z o/\o.cls=.type "list" /\ o.dict=O/\o.data=.seq b n/\b.size<=aJ/\c6 c b.toList
def e?(K:aw)(H:Hp)(a:Addr)(c:bF):Prop:=
 Rd H a (.a7 c)\/
  ∃(o:Obj) (b:Array ab) (n:Nat),K.lookup a=Z o/\o.cls=.type "tuple" /\ o.data=.seq b n/\b.size<=aJ/\c6 c b.toList
def absV:ab->Option V
 |.none=>Z .U
 |.bool b=>Z (.X b)
 |.int i _=>Z (.int i)
 |.str x _=>Z (.str x)
 |.bytes b _=>Z (.V' b)
 |.float b _=>Z (.flt b)
 |.ref a=>Z (.ref a)
 |.type n=>Z (.ty n)
 |_=>O
def dd.abs(r:dd x u):absV u=Z x:=by
 cases x with
 |U=>cases r;rfl
 |X _=>cases r;rfl
 |int _=>obtain⟨t,rfl⟩:=r;rfl
 |str _=>obtain⟨t,rfl⟩:=r;rfl
 |V' _=>obtain⟨t,rfl⟩:=r;rfl
 |flt _=>obtain⟨t,rfl⟩:=r;rfl
 |ref _=>cases r;rfl
 |ty _=>cases r;rfl
def dd.inj(r:dd x u)(q:dd y u):x=y:=cW (r.abs.symm.t q.abs)
theorem c6.inj:∀{b c:bF} {a:List ab},c6 b a->c6 c a->b=c
 |_,_,_,.nil,.nil=>rfl
 |_,_,_,.cons r t,.cons d e=>by rw[r.inj d,c6.inj t e]
section
variable{X:Cx}{pins:cO}{σ:St}{H:Hp}{s:af}{a:Addr}{xs ys:bF}
set_option r "8 3;? 7" in def eϑ0.of{K:aw}(h:H a=Z (.aϑ1 xs)):eϑ0 K H a xs:=.inl (.inl h)
def b0.list(I:b0 X pins σ H s)(h:e8 X.K H a xs):∃its:List ab,c6 xs its/\PlainL s.heap a its.toArray/\xs.length<=aJ:=by
 rcases h with h|⟨o,its,n,c,b,hd,d,f,r⟩
 .obtain⟨z,its,n,r,e⟩:=h.ok I.ew;exact#v[its,r,#v[_,n,e,U,U,U],z]
 .refine#v[its.toList,r,#v[o,n,I.ma a o c,b,hd,by simpa using d],?_];have e:=r.length;simp only[bZ]at e;omega
def b0.tuple(I:b0 X pins σ H s)(h:e? X.K H a xs):∃b:List ab,c6 xs b/\fZ s.heap a b.toArray/\xs.length<=aJ:=by
 rcases h with h|⟨o,b,n,d,c,f,i,r⟩
 .obtain⟨z,b,r,p,_⟩:=h.ok I.ew;exact#v[b,r,p,z]
 .refine#v[b.toList,r,#v[o,I.ma a o d,c,n,by simpa using f],?_];have e:=r.length;simp only[bZ]at e;omega
def b0.D4(I:b0 X pins σ H s)(h:e8 X.K H a xs)(l:e8 X.K H a ys):xs=ys:=by
 obtain⟨c,r,⟨o,n,e,_,_,d⟩,_⟩:=I.list h;obtain⟨b,m,⟨q,p,i,_,_,f⟩,_⟩:=I.list l;rw[e]at i;cases i;rw[d]at f;injection f with j _;have:c=b:=by simpa using bE rL j
 subst this;exact r.inj m
def b0.xo(I:b0 X pins σ H s)(h:e? X.K H a xs)(l:e? X.K H a ys):xs=ys:=by
 obtain⟨c,r,⟨o,e,_,n,d⟩,_⟩:=I.tuple h;obtain⟨b,m,⟨q,i,_,p,f⟩,_⟩:=I.tuple l;rw[e]at i;cases i;rw[d]at f;injection f with j _;have:c=b:=by simpa using bE rL j
 subst this;exact r.inj m
end
abbrev Cx.u1(X:Cx)(E:ab->af->Prop):Cx:={ X with xe:=E }
abbrev Cx.nox(X:Cx):Cx:=X.u1 λt t=>False
theorem Cx.Ok.u1{X:Cx}(ok:X.Ok)(E:ab->af->Prop):(X.u1 E).Ok:=
 #v[ok.w6,ok.kind,ok.vf,ok.blt,ok.above,ok.inj,ok.has,ok.cab,ok.hd,ok.frames,ok.stk,ok.exf,ok.bs,ok.Y?,ok.Q',ok.Pr,ok.qq,ok.frf]
def Cx.Ok.mn{X:Cx}(ok:(X.u1 E).Ok):X.Ok:=
 #v[ok.w6,ok.kind,ok.vf,ok.blt,ok.above,ok.inj,ok.has,ok.cab,ok.hd,ok.frames,ok.stk,ok.exf,ok.bs,ok.Y?,ok.Q',ok.Pr,ok.qq,ok.frf]
section
variable{X:Cx}{pins:cO}{σ:St}{H:Hp}{s:af}{E:ab->af->Prop}
theorem b0.u1(I:b0 X pins σ H s)(E:ab->af->Prop):b0 (X.u1 E) pins σ H s:=#v[I.ok.u1 E,I.os,I.i2,I.a5,I.A6,I.cell,I.free,I.kb,I.Dx,I.ew,I.len]
theorem b0.mn(I:b0 (X.u1 E) pins σ H s):b0 X pins σ H s:=#v[I.ok.mn,I.os,I.i2,I.a5,I.A6,I.cell,I.free,I.kb,I.Dx,I.ew,I.len]
theorem SP.mn(h:SP (X.u1 E) pins D f c):SP X pins D f c:=by
 cases f with
 |next=>obtain⟨a,b,I,q⟩:=h;exact#v[a,b,I.mn,q]
 |brk=>obtain⟨a,b,I,q⟩:=h;exact#v[a,b,I.mn,q]
 |cont=>obtain⟨a,b,I,q⟩:=h;exact#v[a,b,I.mn,q]
 |ret u=>obtain⟨v,a,b,I,r,q⟩:=h;exact#v[v,a,b,I.mn,r,q]
theorem m?.nox{st:List Stmt}{t:TS}(h:m? X.nox st t):m? X st t:=λpins s σ H D I a=>
 cA (h pins s σ H D (I.u1 _) a) (λf f q=>q.mn) λf f z=>dc z
end
section
variable{X:Cx}{st:Stmt}{et:List Stmt}{t u:TS}{e:Expr}{te:TE}{pos:Pos}
def adp:TS:=λD a H=>D.nx a H
def tSeq(t u:TS):TS:=λD σ H=>t { D with nx:=u D } σ H
def VP:m? X [] adp:=λt t a H t I h=>j7 #v[a,H,I,h]
def HV(h1:PS X st t)(h2:m? X et u):m? X (st::et) (tSeq t u):=by
 intro pins s σ H D I h;refine qp (e3 (h1 pins s σ H { D with nx:=u D } I h) λf b q=>?_);cases f with
 |next=>obtain⟨σ',H',a,q⟩:=q;exact h2 pins b σ' H' D a q
 |ret v=>exact q
 |brk=>exact q
 |cont=>exact q
def Kz(b:PS X st t):m? X [st] t:=by
 intro a s c H D I h;refine qp (e3 (b a s c H D I h) λf d q=>?_);cases f with
 |next=>exact j7 q
 |ret v=>exact q
 |brk=>exact q
 |cont=>exact q
def b0.quiet(I:b0 X a b H s):interactive X.a4=δ:=by simp[interactive,I.ok.kind]
def Yi(te:TE):TS:=λD a H=>te a H λt b=>D.nx a b
def OO(f:PE X e te)(i:autoParam (dQ e O pos.line X.a4=pure δ) zA0._auto_1):PS X (.Expr e pos) (Yi te):=by intro a s b H D I h;exact wpAny_Expr_any (e3 (f a s b H _ I h) λv m #v[x,c,d,l,j]=>#v[b,c,d,j]) I.quiet i
def tRet(te:TE):TS:=λD a H=>te a H D.rt
def NB(f:PE X e te):PS X (.Return (Z e) pos) (tRet te):=by intro a s b H D I h;exact wpAny_Return_some (e3 (f a s b H _ I h) λv l #v[x,c,d,j,i]=>#v[x,b,c,d,j,i])
def tIfS(c:TT)(t u:TS):TS:=λD a H=>c a H λb d=>if b=γ then t D a d else u D a d
def ads(r:PT X c tc)(p:m? X a t)(q:m? X b u):PS X (.If c a b pos) (tIfS tc t u):=by
 intro f s i H D I h;refine wpAny_If (e3 (r f s i H _ I h) λd o zz=>?_);obtain⟨j,l,m⟩:=zz;cases d with
 |true=>exact p f o i j D l m
 |false=>exact q f o i j D l m
end
set_option r "G V;Gs bF" in abbrev Tϑ0:=ϑ1->St->Hp->(St->Hp->Prop)->Prop
def PG(X:Cx)(target:Expr)(t:TG):Prop:=
 ∀(a:cO) (s:af) (d:St) (H:Hp) (v:V) (u:ab) (Q:St->Hp->Prop),b0 X a d H s->dd v u->t v d H Q->
  ao (model X.prog X.w) X.A (assign target X.a4 u) (λh e=>∃b c,b0 X a b c e/\Q b c) X.xe s
def G'(X:Cx)(i:List Expr)(t:TGs):Prop:=
 ∀(a:cO) (s:af) (f:St) (H:Hp) (e:bF) (d:List ab) (Q:St->Hp->Prop),b0 X a f H s->c6 e d->t e f H Q->
  ao (model X.prog X.w) X.A (assignInOrder ((de i X.a4).map (·.2)) d) (λ_ h=>∃b c,b0 X a b c h/\Q b c) X.xe s
section
variable{X:Cx}{pos:Pos}
def Be(i:Nat):TG:=λv a H Q=>Q (a.set i (Z v)) H
def OP(hN:X.N.Nodup)(d:X.N[i]?=Z x)(e:Loc X.a4.scope x)(c:autoParam (X.fn x=γ\/X.a4.scope.names.lookup x=Z .local) zA2._auto_1):PG X (.Name x pos) (Be i):=by intro a s j H v u Q I r h;exact wpAny_assign_Name (LU I hN d e r (λf b=>#v[_,H,b,h]) c)
def gNil:TGs:=λa b H Q=>a=[]/\Q b H
inductive RP(t:TG) (u:TGs) (vs:bF) (σ:St) (H:Hp) (Q:(St->Hp->Prop)):Prop
 |i (v r) (h0:vs=v::r) (h1:t v σ H λσ' H'=>u r σ' H' Q):RP t u vs σ H Q
def Yj(t:TG)(u:TGs):TGs:=λa b H Q=>RP t u a b H Q
def VQ:G' X [] gNil:=by intro a s b H d c Q I r h;obtain⟨e,h⟩:=h;subst e;cases r;exact assignInOrder_nil #v[b,H,I,h]
def RQ(j:PG X e t)(l:G' X b u)
  (m:autoParam ((de (e::b) X.a4).map (·.2)=assign e X.a4::(de b X.a4).map (·.2)) zA0._auto_1):G' X (e::b) (Yj t u):=by
 intro a s w H z x Q I r h;obtain⟨v,y,i,h⟩:=h;subst i;cases r with
 |cons r p=>rw[m];refine assignInOrder_cons (e3 (j a s w H _ _ _ I r h) λ_ q zz=>?_);obtain⟨c,d,f,o⟩:=zz;exact l a q c d _ _ Q f p o
inductive Yk(K:aw) (n:Nat) (t:TGs) (v:V) (σ:St) (H:Hp) (Q:(St->Hp->Prop)):Prop
 |i (a xs) (h0:v=.ref a) (h1:e? K H a xs) (h2:xs.length=n) (h3:t xs σ H Q):Yk K n t v σ H Q
def Zt(K:aw)(n:Nat)(t:TGs):TG:=λv a H Q=>Yk K n t v a H Q
def Zu(i:X.mi=γ)(h:G' X es t)
  (hn:autoParam ((de es X.a4).length=n) zA0._auto_1) (hst:autoParam ((de es X.a4).findIdx? (·.1)=O) zA0._auto_1):PG X (.Tuple es k pos) (Zt X.K n t):=by
 intro pins s σ H v u Q I r hw;obtain⟨a,xs,f,l,j,hw⟩:=hw;subst f;cases r;obtain⟨q,c,m,w⟩:=I.tuple l;refine assign_Tuple_tuple (I.ok.hd i) m (by simp[hn,<- j,c.length]) hst λh' p=>?_;have d:b0 X pins σ H { s with heap:=h' }:=I.fh (t':=s.toks) λb o e=>p b o (bj (bb e)) e;exact h pins _ σ H xs _ Q d (by simpa using c) hw
def E7(c:TE)(g:TG):TS:=λD a H=>c a H λx b=>g x a b D.nx
def Zv(j:PE X e u)(l:PG X b g)(m:autoParam (swapsWithSole [b] e pos.line X.a4=pure δ) zA0._auto_1)(o:autoParam (swappedStores [b] e X.a4=pure O) zA0._auto_1)
  (i:autoParam ((de [b] X.a4).map (·.2)=[assign b X.a4]) zA0._auto_1):PS X (.Assign [b] e pos) (E7 u g):=by
 intro a s c H D I h;refine wpAny_Assign_stores (e3 (j a s c H _ I h) λv t zz=>?_) m o;obtain⟨x,d,f,r,p⟩:=zz;rw[i];exact e3 (l a t c d x v _ f r p) λ_ w q=>q
def Zw(hN:X.N.Nodup)(l:X.N[i]?=Z x)(o:Loc X.a4.scope x)(f:PE X e r)(m:autoParam (dQ e (Z (.Name x pos')) pos.line X.a4=pure δ) zA0._auto_1)(j:autoParam (X.fn x=γ\/X.a4.scope.names.lookup x=Z .local) zA2._auto_1):
  PS X (.Assign [.Name x pos'] e pos) (E7 r (Be i)):=by
 intro a s t H D I h;refine wpAny_Assign_Name (e3 (f a s t H _ I h) λv u zz=>?_) m;obtain⟨y,b,c,q,p⟩:=zz;exact LU c hN l o q (λw d=>#v[_,b,d,p]) j
end
section
variable{X:Cx}{pos:Pos}
inductive OQ(c:TT) (tb:TS) (D:B?) (σ:St) (H:Hp):Prop
 |i (W:Nat->St->Hp->Prop) (h0:(∃m,W m σ H)) (h1:∀m σ H,W m σ H->c σ H λb H1=>if b=γ then ∃N:St->Hp->Prop,(∀σ' H',N σ' H'->∃m',m'<m/\W m' σ' H')/\tb { D with nx:=N,ct:=N,bk:=D.nx } σ H1 else D.nx σ H1):OQ c tb D σ H
def RR(c:TT)(tb:TS):TS:=λD a H=>OQ c tb D a H
def RT(z:kz (model X.prog X.w) X.A X.a4 X.xe)(E:PT X c tc)(C:m? X body tb):PS X (.While c body [] pos) (RR tc tb):=by
 intro a s R H D I h;obtain⟨W,⟨F,P⟩,turn⟩:=h;refine wpAny_While (codeAny_whileLoop (λn G=>∃j t,b0 X a j t G/\W n j t) ?_ F #v[R,H,I,P]);rintro n J ⟨e,u,B,Q⟩;refine gz z (e3 (E a J e u _ B (turn n e u Q)) λb M zz=>?_);obtain⟨x,y,l⟩:=zz;cases b with
 |true=>
  obtain⟨N,hN,l⟩:=l;rw[aj U];refine gz z (e3 (C a M e x _ y l) λf S q3=>?_);cases f with
  |next=>obtain⟨d,i,m,q⟩:=q3;obtain⟨p,o,r⟩:=hN d i q;exact#v[p,o,d,i,m,r]
  |cont=>obtain⟨d,i,m,q⟩:=q3;obtain⟨p,o,r⟩:=hN d i q;exact#v[p,o,d,i,m,r]
  |brk=>exact q3
  |ret v=>exact q3
 |false=>rw[ak bH];exact j7 #v[e,x,y,l]
end
structure It where
 go:Nat->Hp->Prop
 yld:Nat->Hp->V->Hp->Prop
 stop:Nat->Hp->Prop
def KA(X:Cx)(a:cO)(H:Hp)(b:Addr):Prop:=
 H b=O/\b≠X.a4.locals/\b∉X.fs/\(b∈X.ex\/X.s₀.heap.objs.size<=b)/\(∀x c,X.a4.cells.lookup x=Z c->c≠b)/\∀p∈X.pn++a,p.1≠b
def b0.Rn(I:b0 X d j H s)(a:s.heap.objs.size<=b)(h:f b=O):KA X d f b:=by
 refine#v[h,gO (cz I.lt a),I.nofs a,.inr (bz I.sz a),λx c e z=>?_,λp i z=>?_]
 .obtain⟨v,q⟩:=I.cell x c e;exact aq (cz q.lt (by rw[z];exact a)) (fS _)
 .exact aq (cz (bb (I.Dx p i).1) (by rw[z];exact a)) (fS _)
structure P'(P:aL)(w:aE)(K:aw)(tg:Expr)(J:It)(fp:List Addr)(it:Addr)(tn:Nat->Heap->Prop):Prop where
 mem:it∈fp
 obj:∀i h,tn i h->∀b∈fp,∃o,h.get? b=Z o/\∀v,o.data≠.cell v
 keep:∀i h h',tn i h->(∀b∈fp,∀o,h.get? b=Z o->h'.get? b=Z o)->tn i h'
 item:∀(X:Cx),X.prog=P->X.w=w->X.K=K->X.mi=γ->∀(i:Nat) (pins:cO) (s:af) (σ:St) (H:Hp) (E:ab->af->Prop),b0 X pins σ H s->(∀b∈fp,KA X pins H b)->tn i s.heap->J.go i H->
  ao (model P w) X.A (pyNext (.ref it)) (λr s1=>∃u,r=Z u/\
   ao (model P w) X.A (jh tg (.ref it) u) (λt s2=>∃x H',b0 X pins σ H' s2/\dd x u/\J.yld i H x H'/\tn (i+1) s2.heap/\∀b∈fp,H' b=O) E s1) E s
 done:∀(X:Cx),X.prog=P->X.w=w->X.K=K->X.mi=γ->∀(i:Nat) (pins:cO) (s:af) (σ:St) (H:Hp) (E:ab->af->Prop),b0 X pins σ H s->(∀b∈fp,KA X pins H b)->tn i s.heap->J.stop i H->
  ao (model P w) X.A (pyNext (.ref it)) (λr s1=>r=O/\b0 X pins σ H s1) E s
 self:∀(A:aR) (i:Nat) (s:af) (Q:ab->af->Prop) (E:ab->af->Prop),tn i s.heap->Q (.ref it) s->ao (model P w) A (pyIter (.ref it)) Q E s
abbrev TI:=St->Hp->(It->Hp->Prop)->Prop
def PIE(X:Cx)(a:cO)(j:St)(i:Expr)(R:It->Hp->Prop)(itv:ab)(f:af):Prop:=
 ∃(e:Addr) (d:List Addr) (h:Nat->Heap->Prop) (J:It) (c:Hp),itv=.ref e/\b0 X a j c f/\P' X.prog X.w X.K i J d e h/\h 0 f.heap/\(∀b∈d,KA X a c b)/\R J c
def PI(X:Cx)(d iter:Expr)(e:TI):Prop:=
 ∀(a:cO) (s:af) (b:St) (H:Hp) (R:It->Hp->Prop),b0 X a b H s->e b H R->
  ao (model X.prog X.w) X.A (eval iter X.a4) (λv c=>ao (model X.prog X.w) X.A (pyIter v) (PIE X a b d R) X.xe c) X.xe s
def OR{s:af}(c:s.heap.get? d=Z o)(a:o.cls=.type n)(hd:o.data=.fields f)
  (b:["enumerate", "zip", "dict_itemiterator", "dict_reverseitemiterator", "odict_iterator", "itertools.zip_longest", "itertools.pairwise"].contains n=δ) (hQ:Q () s):ao M A (jh e (.ref d) u) Q E s:=by
 unfold jh;cases e<;>first
  |exact ar hQ
  |(cases u<;>first
    |exact ar hQ
    |(refine ai (wpAny_load c ?_)
      rw[a,hd];show ao M A (if (["enumerate", "zip", "dict_itemiterator", "dict_reverseitemiterator", "odict_iterator", "itertools.zip_longest", "itertools.pairwise"].contains n&&f[0]?==Z (rawInt _))=γ then _ else _) Q E s;rw[ak (by intro h;rw[b,Bool.false_and]at h;cases h)];exact ar hQ))
set_option r "l 8;t ?" in def Itϑ0(K:aw)(a:Addr):It:=
 #v[λi H=>∃b x,eϑ1 K H a b/\b[i]?=Z x,λi H x c=>c=H/\∀b,eϑ1 K H a b->b[i]?=Z x,λi H=>∃b,eϑ1 K H a b/\b.length<=i]
def Itr(lo:Int)(n:Nat):It:=#v[λi t=>i<n,λi H x a=>a=H/\x=.int (lo+i),λi t=>n<=i]
def Qp{P:aL}{w:aE}{K:aw}{tg:Expr}(a it:Addr):P' P w K tg (Itl K a) [it] it (λi h=>h.IsListIter it a i) where
 mem:=by simp
 obj:=λi h st b hb=>by
  have e:b=it:=by simpa using hb
  subst e;obtain⟨o,e,c,d⟩:=st;exact#v[o,e,λv z=>by rw[d]at z;cases z]
 keep:=λi h h' st k=>st.at λo e=>k it (by simp) o e
 item:=by intro X hP hw hK C i pins s σ H E I hf st hg;subst hP hw hK;obtain⟨xs,x,j,y⟩:=hg;obtain⟨A,B,p,Q⟩:=I.list j;obtain⟨u,M,R⟩:=B.get y;obtain⟨l,m,J,q,r,t⟩:=hf it (by simp);refine wpAny_pyNext_list_item st p.isList (x:=u) (by simpa using M) λh' f S=>?_;have F:b0 X pins σ H { s with heap:=h' }:=I.ix (t':=s.toks) (λb o hb e=>(S.2 b hb).t e) l m q r t;obtain⟨o,e,c,d⟩:=id f;exact#v[u,U,OR (s:={ s with heap:=h' }) e c d (by decide) #v[x,H,F,R,#v[U,λY N=>by rw[I.D4 N j];exact y],f,λb hb=>(hf b hb).1]]
 done:=by intro X hP hw hK C i pins s σ H E I hf st hg;subst hP hw hK;obtain⟨xs,j,y⟩:=hg;obtain⟨A,B,p,Q⟩:=I.list j;obtain⟨l,m,J,q,r,t⟩:=hf it (by simp);have W:=B.length;exact wpAny_pyNext_list_end (I.ok.hd C) st p.isList (by simp;omega) λh' G=>#v[U,I.ix (t':=s.toks) (λb o hb e=>G b o hb e) l m q r t]
 self:=λ_ _ _ _ _ st h=>wpAny_pyIter_listiter st h
def NC{P:aL}{w:aE}{K:aw}{tg:Expr}(a it:Addr):P' P w K tg (Itt K a) [it] it (λi h=>h.IsTupleIter it a i) where
 mem:=by simp
 obj:=λi h st b hb=>by
  have e:b=it:=by simpa using hb
  subst e;obtain⟨o,e,c,d⟩:=st;exact#v[o,e,λv z=>by rw[d]at z;cases z]
 keep:=λi h h' st k=>st.at λo e=>k it (by simp) o e
 item:=by intro X hP hw hK C i pins s σ H E I hf st hg;subst hP hw hK;obtain⟨xs,x,l,A⟩:=hg;obtain⟨f,B,p,Q⟩:=I.tuple l;obtain⟨u,M,R⟩:=B.get A;obtain⟨m,q,J,r,t,y⟩:=hf it (by simp);refine wpAny_pyNext_tuple_item st (show s.heap.IsTuple a f.toArray from p) (x:=u) (by simpa using M) λh' j S=>?_;have F:b0 X pins σ H { s with heap:=h' }:=I.ix (t':=s.toks) (λb o hb e=>(S.2 b hb).t e) m q r t y;obtain⟨o,e,c,d⟩:=id j;exact#v[u,U,OR (s:={ s with heap:=h' }) e c d (by decide) #v[x,H,F,R,#v[U,λY N=>by rw[I.xo N l];exact A],j,λb hb=>(hf b hb).1]]
 done:=by intro X hP hw hK C i pins s σ H E I hf st hg;subst hP hw hK;obtain⟨xs,l,A⟩:=hg;obtain⟨f,B,p,Q⟩:=I.tuple l;obtain⟨m,q,J,r,t,y⟩:=hf it (by simp);have W:=B.length;exact wpAny_pyNext_tuple_end (I.ok.hd C) st (show s.heap.IsTuple a f.toArray from p) (by simp;omega) λh' G=>#v[U,I.ix (t':=s.toks) (λb o hb e=>G b o hb e) m q r t y]
 self:=λ_ _ _ _ _ st h=>wpAny_pyIter_tupleiter st h
def ND{P:aL}{w:aE}{K:aw}{tg:Expr}(it:Addr)(lo:Int)(n:Nat):P' P w K tg (Itr lo n) [it] it (λi h=>IsRangeIter h it (lo+(i:Nat) * 1) ((n:Int) - (i:Nat)) 1) where
 mem:=by simp
 obj:=λi h st b hb=>by
  have e:b=it:=by simpa using hb
  subst e;exact#v[_,st,λv z=>by
   have y:Data.fields _=Data.cell v:=z;cases y]
 keep:=λi h h' st k=>k it (by simp) _ st
 item:=by intro X hP hw hK m i pins s σ H E I hf st hg;subst hP hw hK;obtain⟨c,d,r,f,j,l⟩:=hf it (by simp);have W:=Walks.range (prog:=X.prog) (w:=X.w) (I.ok.hd m) it lo 1 n;refine W.item i s _ _ hg st λv h' tk u a x=>?_;obtain⟨t,rfl⟩:=u;have p:b0 X pins σ H { s with heap:=h',toks:=tk }:=I.ix (λb o hb e=>x b o (by simpa using hb) e) c d f j l;refine#v[_,U,OR (s:={ s with heap:=h',toks:=tk }) (n:="range_iterator") a rfl U (by decide) #v[.int (lo+i),H,p,#v[t,?_],#v[U,U],a,λb hb=>(hf b hb).1]];rw[Int.mul_one]
 done:=by intro X hP hw hK m i pins s σ H E I hf st hg;subst hP hw hK;obtain⟨c,d,r,f,j,l⟩:=hf it (by simp);exact wpAny_pyNext_range_end (I.ok.hd m) st (by have:n<=i:=hg;omega) λh' q=>#v[U,I.ix (t':=s.toks) (λb o hb e=>q b o hb e) c d f j l]
 self:=λ_ _ _ _ _ st h=>wpAny_pyIter_rangeiter st h
section
variable{X:Cx}{tg:Expr}
set_option r "RU 8 l;Zx ? t" in def ϑ0(K:aw)(c:TE):TI:=λe H R=>c e H λx b=>∃a,x=.ref a/\(∃d,eϑ1 K b a d)/\R (Itϑ2 K a) b
def VR{l:Expr}{i:TE}(r:PE X l i):PI X tg l (RU X.K i):=by
 intro c s z H R I h;refine e3 (r c s z H _ I h) λv f zz=>?_;obtain⟨x,j,d,y,w⟩:=zz;obtain⟨a,e,⟨E,t⟩,q⟩:=w;subst e;cases y;obtain⟨u,B,p,A⟩:=d.list t;refine ig p.isList ?_;refine#v[f.heap.objs.size,[f.heap.objs.size],_,_,j,U,d.fh (t':=f.toks) λb o e=>aT _ e,Qp a _,#v[_,bA _ U,U,U],λb m=>?_,q];have e:b=f.heap.objs.size:=by simpa using m
 subst e;exact d.Rn (aI _) (d.ew.fresh (aI _))
def Zy{l:Expr}{j:TE}(t:PE X l j):PI X tg l (Zx X.K j):=by
 intro c s z H R I h;refine e3 (t c s z H _ I h) λv d zz=>?_;obtain⟨x,m,f,y,w⟩:=zz;obtain⟨a,e,⟨E,u⟩,q⟩:=w;subst e;cases y;obtain⟨i,B,p,A⟩:=f.tuple u;refine pK (show d.heap.IsTuple a i.toArray from p) ?_;refine#v[d.heap.objs.size,[d.heap.objs.size],_,_,m,U,f.fh (t':=d.toks) λb o e=>aT _ e,NC a _,#v[_,bA _ U,U,U],λb r=>?_,q];have e:b=d.heap.objs.size:=by simpa using r
 subst e;exact f.Rn (aI _) (f.ew.fresh (aI _))
def LV{pins:cO}{σ:St}{H:Hp}{s:af}{R:It->Hp->Prop}{E:ab->af->Prop}{lo hi:Int}{t u v:Tok}{tk:Nat}(I:b0 X pins σ H s)(h1:-(2 ^ 62)<=lo)(h2:lo<2 ^ 62)(h3:-(2 ^ 62)<=hi)(h4:hi<2 ^ 62)
  (q:R (Itr lo (hi - lo).toNat) H):ao (model X.prog X.w) X.A (pyIter (.ref s.heap.objs.size)) (PIE X pins σ tg R) E { s with heap:=s.heap.push { cls:=.type "range", data:=.fields #[.int lo t,.int hi u,.int 1 v] },toks:=tk }:=by
 refine wpAny_pyIter_range (IsRange.new ..) (small_one h1 h2 h3 h4) ?_;have a:b0 X pins σ H { s with heap:=s.heap.push { cls:=.type "range", data:=.fields #[.int lo t,.int hi u,.int 1 v] },toks:=tk }:=I.fh λb o e=>aT _ e;refine#v[(s.heap.push { cls:=.type "range", data:=.fields #[.int lo t,.int hi u,.int 1 v] }).objs.size,[(s.heap.push { cls:=.type "range", data:=.fields #[.int lo t,.int hi u,.int 1 v] }).objs.size],_,_,H,U,
  a.fh (t':=tk) λb o e=>aT _ e,ND _ lo (hi - lo).toNat,?_,λb hb=>?_,q]
 .have c:lo+((0:Nat):Int) * 1=lo:=by simp
  have d:(((hi - lo).toNat:Nat):Int) - ((0:Nat):Int)=uA lo hi 1:=by rw[rangeSize_one];split<;>omega
  show IsRangeIter _ _ (lo+((0:Nat):Int) * 1) ((((hi - lo).toNat:Nat):Int) - ((0:Nat):Int)) 1;rw[c,d];exact bA _ U
 .have e:b=(s.heap.push { cls:=.type "range", data:=.fields #[.int lo t,.int hi u,.int 1 v] }).objs.size:=by simpa using hb
  subst e;exact a.Rn (aI _) (a.ew.fresh (aI _))
def Yl(b:TA):TI:=λd H R=>b d H λc a=>∃j:Int,c=[.int j]/\-(2 ^ 62)<=j/\j<2 ^ 62/\R (Itr 0 j.toNat) a
def Ym(b:TA):TI:=λd H R=>b d H λc a=>∃i j:Int,c=[.int i,.int j]/\(-(2 ^ 62)<=i/\i<2 ^ 62/\-(2 ^ 62)<=j/\j<2 ^ 62)/\R (Itr i (j - i).toNat) a
def Qq{a:Expr}{d:TA}{p pos:Pos}(l:Gl X "range")(m:X.mg "range" = O)(i:PA X [a] d)(o:autoParam (aF [a] X.a4=[(δ,eval a X.a4)]) zA0._auto_1):PI X tg (.Call (.Name "range" p) [a] [] pos) (Yl d):=by
 intro b s y H R I h;refine Call_ (Cn I l m boot_range (callWith_type1 (e3 (i pos b s y H _ I h) λB A zz=>?_) o U));obtain⟨C,z,f,w,c⟩:=zz;obtain⟨j,e,c,u,q⟩:=c;subst e;cases w with
 |cons r x=>cases x;obtain⟨t,rfl⟩:=r;exact call_range_1 (LV f (by omega) (by omega) c u (by simpa using q))
def Qr(u:Gl X "range")(w:X.mg "range" = O)(o:PA X [a,b] C)(x:autoParam (aF [a,b] X.a4=[(δ,eval a X.a4),(δ,eval b X.a4)]) zA0._auto_1)(c:autoParam (aF [b] X.a4=[(δ,eval b X.a4)]) zA0._auto_1):
  PI X tg (.Call (.Name "range" p) [a,b] [] pos) (Ym C):=by
 intro d s E H R I h;refine Call_ (Cn I u w boot_range (callWith_type1 (e3 (o pos d s E H _ I h) λM G zz=>?_) (by rw[x,c]) (by rw[c];rfl)));obtain⟨N,F,m,B,f⟩:=zz;obtain⟨i,j,e,⟨f,y,q3,z⟩,q⟩:=f;subst e;cases B with
 |cons r l=>
  cases l with
  |cons A l=>cases l;obtain⟨t,rfl⟩:=r;obtain⟨J,rfl⟩:=A;exact call_range_2 (LV m f y q3 z q)
def Zz(c:TI)(g:TG)(tb:TS):TS:=λD σ H=>c σ H λJ H1=>∃W:Nat->Nat->St->Hp->Prop,(∃m,W 0 m σ H1)/\∀i m σ H,W i m σ H->
 (J.stop i H/\D.nx σ H)\/(J.go i H/\∃N:St->Hp->Prop,(∀σ' H',N σ' H'->∃b,b<m/\W (i+1) b σ' H')/\∀x H',J.yld i H x H'->g x σ H' λa H2=>tb { D with nx:=N,ct:=N,bk:=D.nx } a H2)
def HW(a:List Addr)(h:Heap):cO:=a.filterMap λb=>(h.get? b).map λo=>(b,o)
def AI{h:Heap}(c:b∈a)(e:h.get? b=Z o):(b,o)∈HW a h:=ja.2 #v[b,c,by rw[e];rfl]
def Qs(f:p∈HW c h):p.1∈c/\h.get? p.1=Z p.2:=by
 obtain⟨b,d,e⟩:=ja.1 f;cases q:h.get? b with
 |none=>rw[q]at e;cases e
 |some o=>rw[q]at e;have a:(b,o)=p:=cW e;subst a;exact#v[d,q]
def b0.I'(I:b0 X a t H s)(m:∀b∈f,KA X a H b)(q:∀b∈f,∃o,s.heap.get? b=Z o/\∀v,o.data≠.cell v):b0 X (a++HW f s.heap) t H s:=
 I.Mn λp r=>(aZ.1 r).elim (λz=>I.Dx p (bx _ z)) λz=>by obtain⟨h,e⟩:=Qs z;obtain⟨i,j,l,_⟩:=m p.1 h;obtain⟨o,c,d⟩:=q p.1 h;rw[e]at c;cases c;exact#v[e,i,j,l,d]
def b0.mq(I:b0 X (a++pl) c H s):b0 X a c H s:=I.Mn λp b=>I.Dx p (bx _ (bC _ b))
def RV(F:kz (model X.prog X.w) X.A X.a4 X.xe)(hc:X.mi=γ)(hi:PI X tg iter wi)(hg:PG X tg g)(p:m? X body tb)
  (hs:autoParam (∀x,jb iter X.a4 x=pure x) zA3._auto_1):PS X (.For tg iter body [] pos) (Zz wi g tb):=by
 intro a s σ H D I h;refine wpAny_For (e3 (hi a s σ H _ I h) λv s1 h1=>e3 h1 λitv s2 h2=>?_) hs;obtain⟨it,C,tn,J,H2,e,I2,T,st2,f2,W,⟨m0,w0⟩,turn⟩:=h2;subst e;have stat:∀{y:Hp},(∀b∈C,y b=O)->∀b∈C,KA X a y b:=λhn b p=>#v[hn b p,(f2 b p).2];refine codeAny_forLoop_any (λn s'=>∃i q y,b0 X a q y s'/\tn i s'.heap/\(∀b∈C,y b=O)/\W i n q y) ?_ m0 #v[0,σ,H2,I2,st2,λb p=>(f2 b p).1,w0];rintro n s3 ⟨i,t,P,I3,M,E,w3⟩;rcases turn i n t P w3 with ⟨stop,qn⟩|⟨go,N,hN,step⟩
 .refine gz F (e3 (T.done X U U U hc i a s3 t P X.xe I3 (stat E) M stop) λr s4 zz=>?_);obtain⟨S,I4⟩:=zz;subst S;exact j7 #v[t,P,I4,qn]
 .refine gz F (e3 (T.item X U U U hc i a s3 t P X.xe I3 (stat E) M go) λr s4 zz=>?_);obtain⟨u,S,h4⟩:=zz;subst S;refine gz F (e3 h4 λ_ s5 zz=>?_);obtain⟨x,H5,I5,r5,y5,B,R⟩:=zz;have Q:=I5.I' (stat R) (T.obj _ _ B);refine gz F (e3 (hg _ s5 t H5 x u _ Q r5 (step x H5 y5)) λ_ s6 zz=>?_);obtain⟨σ6,H6,I6,q6⟩:=zz;refine gz F (e3 (p _ s6 σ6 H6 _ I6 q6) λf Y z=>?_);have again:∀{c:St} {j:Hp},b0 X (a++HW C s5.heap) c j Y->N c j->∃m,m<n/\∃i q y,b0 X a q y Y/\tn i Y.heap/\(∀b∈C,y b=O)/\W i m q y:=λ{c j} l G=>by obtain⟨m',hm,w7⟩:=hN c j G;refine#v[m',hm,i+1,c,j,l.mq,T.keep _ _ _ B λb p o e=>(l.Dx (b,o) (bx _ (bx _ (AI p e)))).1,λb p=>?_,w7];obtain⟨o,e,d⟩:=T.obj _ _ B b p;exact(l.Dx (b,o) (bx _ (bx _ (AI p e)))).2.1
  cases f with
  |next=>obtain⟨c,j,l,G⟩:=z;exact again l G
  |cont=>obtain⟨c,j,l,G⟩:=z;exact again l G
  |brk=>obtain⟨c,j,l,z⟩:=z;exact#v[c,j,l.mq,z]
  |ret v=>obtain⟨x7,c,j,l,r7,z⟩:=z;exact#v[x7,c,j,l.mq,r7,z]
end
abbrev R2:=V->V->Hp->VK->Prop
def gi(X:Cx)(f:ab->ab->Sem ab)(r:R2):Prop:=
 ∀(a:cO) (s:af) (b:St) (H:Hp) (x y:V) (v u:ab) (Q:VK),b0 X a b H s->dd x v->dd y u->r x y H Q->
  ao (model X.prog X.w) X.A (f v u) (EP X a b Q) X.xe s
def xH(X:Cx)(f:ab)(r:bF->Hp->VK->Prop):Prop:=
 ∀(a:cO) (s:af) (d:St) (H:Hp) (c:bF) (b:List ab) (Q:VK),b0 X a d H s->c6 c b->r c H Q->
  ao (model X.prog X.w) X.A (call f b) (EP X a d Q) X.xe s
def tOp(r:R2)(d tb:TE):TE:=λa H Q=>d a H λx b=>tb a b λy c=>r x y c Q
inductive IrI(C:Int->Int->Prop) (g:Int->Int->V) (x:V) (y:V) (H:Hp) (Q:VK):Prop
 |i (i j) (h0:x=.int i) (h1:y=.int j) (h2:C i j) (h3:Q (g i j) H):IrI C g x y H Q
def rI(C:Int->Int->Prop)(g:Int->Int->V):R2:=λx y H Q=>IrI C g x y H Q
inductive IrI0(g:Int->Int->V) (x:V) (y:V) (H:Hp) (Q:VK):Prop
 |i (i j) (h0:x=.int i) (h1:y=.int j) (h2:Q (g i j) H):IrI0 g x y H Q
def Bx(g:Int->Int->V):R2:=λx y H Q=>IrI0 g x y H Q
section
variable{X:Cx}{a b c:Expr}{ta tb tc:TE}{pos:Pos}
def ZC(r:PE X a ta)(t:PE X b tb){d:cO}{s:af}{i:St}{H:Hp}{R:V->V->Hp->Prop}(I:b0 X d i H s)
  (h:ta i H λx o=>tb i o λy e=>R x y e) {Q:ab->af->Prop} {f:ab->ab->Sem ab}
  (z:∀v u m x y e,b0 X d i e m->dd x v->dd y u->R x y e->ao (model X.prog X.w) X.A (f v u) Q X.xe m):
  ao (model X.prog X.w) X.A (eval a X.a4) (λv j=>ao (model X.prog X.w) X.A (eval b X.a4) (λu l=>ao (model X.prog X.w) X.A (f v u) Q X.xe l) X.xe j) X.xe s:=by
 refine e3 (r d s i H _ I h) λv G zz=>?_;obtain⟨x,o,p,E,B⟩:=zz;refine e3 (t d G i o _ p B) λu m zz=>?_;obtain⟨y,e,q,F,C⟩:=zz;exact z v u m x y e q E F C
def RW(l:gi X (cK m) r)(i:PE X a ta)(j:PE X b tb):PE X (.BinOp a m b pos) (tOp r ta tb):=by intro d s w H Q I h;exact wpAny_BinOp (ZC i j I h λv u t x y e f o p q=>l d t w e x y v u Q f o p q)
def opI{f:ab->ab->Sem ab}{C:Int->Int->Prop}{g:Int->Int->Int}
  (rule:∀(i j:Int) (t u:Tok) (s:af) (Q:ab->af->Prop) (E:ab->af->Prop),C i j->Q (.int (g i j) s.toks) { s with toks:=s.toks+1 }->ao (model X.prog X.w) X.A (f (.int i t) (.int j u)) Q E s):
  gi X f (rI C λi j=>.int (g i j)):=by
 intro pins s σ H x y v u Q I e l h;obtain⟨i,j,rfl,rfl,d,q⟩:=h;obtain⟨t,rfl⟩:=e;obtain⟨m,rfl⟩:=l;exact rule i j t m s _ _ d #v[.int (g i j),H,I.ri _,#v[_,U],q]
def ZD{f:ab->ab->Sem ab}{g:Int->Int->Int}
  (rule:∀(i j:Int) (t u:Tok) (s:af) (Q:ab->af->Prop) (E:ab->af->Prop),Q (.int (g i j) s.toks) { s with toks:=s.toks+1 }->ao (model X.prog X.w) X.A (f (.int i t) (.int j u)) Q E s):
  gi X f (Bx λi j=>.int (g i j)):=by
 intro pins s σ H x y v u Q I d e h;obtain⟨i,j,rfl,rfl,q⟩:=h;obtain⟨t,rfl⟩:=d;obtain⟨l,rfl⟩:=e;exact rule i j t l s _ _ #v[.int (g i j),H,I.ri _,#v[_,U],q]
def VS{f:ab->ab->Sem ab}{g:Int->Int->Bool}
  (rule:∀(i j:Int) (t u:Tok) (s:af) (Q:ab->af->Prop) (E:ab->af->Prop),Q (.bool (g i j)) s->ao (model X.prog X.w) X.A (f (.int i t) (.int j u)) Q E s):
  gi X f (Bx λi j=>.X (g i j)):=by
 intro d s o H x y v u Q I e l h;obtain⟨i,j,rfl,rfl,q⟩:=h;obtain⟨t,rfl⟩:=e;obtain⟨m,rfl⟩:=l;exact rule i j t m s _ _ #v[.X (g i j),H,I,U,q]
def ZJ(i j:Int):Prop:=0<j/\j<1073741824
def CPow(i j:Int):Prop:=0<=j/\j<=1000000/\i.natAbs<2 ^ 64
def VT(i j:Int):Prop:=(-(2 ^ 64)<i/\i<2 ^ 64)\/(-(2 ^ 64)<j/\j<2 ^ 64)
def VT.ok(h:VT i j):IntMulOk i j:=by
 rcases h with ⟨d,e⟩|⟨d,e⟩
 .exact .of_left (rq d e)
 .exact .of_right (rq d e)
def NF(k:Nat):(0:Int)<=2 ^ k:=by rw[two_pow_cast];exact jQ _
def ZL:gi X (cK .Add) (Bx λi j=>.int (i+j)):=ZD λt t t t t t t q=>add_int q
def ZM:gi X (cK .Sub) (Bx λi j=>.int (i - j)):=ZD λt t t t t t t q=>sub_int q
def ZQ:gi X (cK .Mult) (rI VT λi j=>.int (i * j)):=opI λt t t t t t t d q=>mul_int q d.ok
def VU:gi X (cK .FloorDiv) (rI ZJ λi j=>.int (i / j)):=opI λi j t t t t t d q=>by have e:(0:Int)<j:=d.1;have f:j<1073741824:=d.2;exact floordiv_int (by omega) (by rw[oE i (by omega)];exact q) (.inl (PyProof.noPylong_small (by omega)))
def ZR:gi X (cK .Mod) (rI (λt j=>0<j) λi j=>.int (i % j)):=opI λi j t t t t t d q=>by have e:(0:Int)<j:=d;exact mod_int' (by omega) (by rw[Int.fmod_eq_emod_of_nonneg i (by omega)];exact q)
def ZU:gi X (cK .Pow) (rI CPow λi j=>.int (i ^ j.toNat)):=opI λt t t t t t t d q=>pow_int_small d.1 d.2.1 d.2.2 q
def ZV:gi X (cK .RShift) (rI (λt j=>0<=j) λi j=>.int (i / 2 ^ j.toNat)):=opI λi j t t t t t d q=>
 rshift_int d (by rw[oE i (NF _)];exact q)
def ZZ:gi X (cK .BitAnd) (Bx λi j=>.int (ka i j)):=ZD λt t t t t t t q=>and_int q
end
def RX:V->V->Bool
 |.U,.U=>γ|.U,.int _=>γ|.int _,.U=>γ|.U,.X _=>γ|.X _,.U=>γ|.U,.str _=>γ|.str _,.U=>γ
 |.int _,.int _=>γ|.X _,.X _=>γ|.str _,.str _=>γ|.V' _,.V' _=>γ
 |.int _,.str _=>γ|.str _,.int _=>γ|.X _,.str _=>γ|.str _,.X _=>γ
 |_,_=>δ
def rEq:R2:=λx y H Q=>RX x y=γ/\Q (.X (decide (x=y))) H
def rNe:R2:=λx y H Q=>RX x y=γ/\Q (.X (!decide (x=y))) H
set_option r "OS int;RY X;OT str" in def ϑ0:decide (V.ϑ1 i=V.ϑ1 j)=(i==j):=by rw[d6];simp
def OU:decide (V.V' i=V.V' j)=(i.toList==j.toList):=by rw[d6];cases i;cases j;simp
section
variable{X:Cx}{a b c:Expr}{ta tb tc:TE}{pos:Pos}
def wD(I:b0 X d h H s)(q:Q (.X k) H)(e:k=f):EP X d h Q (.bool f) s:=by subst e;exact#v[.X k,H,I,U,q]
def adw:gi X (bD .Eq) rEq:=by
 intro m s o H x y v u Q I l d h;obtain⟨f,q⟩:=h;cases x with
 |U=>
  cases l;cases y with
  |U=>cases d;exact tW (wD I q (by simp))
  |X j=>cases d;exact tY (wD I q (by simp))
  |int j=>obtain⟨e,rfl⟩:=d;exact ug (wD I q (by simp))
  |str j=>obtain⟨e,rfl⟩:=d;exact uh (wD I q (by simp))
  |_=>exact aq (show δ=γ from f) bH
 |X i=>
  cases l;cases y with
  |U=>cases d;exact tZ (wD I q (by simp))
  |X j=>cases d;exact eq_bool (wD I q RY)
  |str j=>obtain⟨e,rfl⟩:=d;exact t6 (wD I q (by simp))
  |_=>exact aq (show δ=γ from f) bH
 |int i=>
  obtain⟨t,rfl⟩:=l;cases y with
  |U=>cases d;exact ui (wD I q (by simp))
  |int j=>obtain⟨e,rfl⟩:=d;exact eq_int (wD I q OS)
  |str j=>obtain⟨e,rfl⟩:=d;exact uj (wD I q (by simp))
  |_=>exact aq (show δ=γ from f) bH
 |str i=>
  obtain⟨t,rfl⟩:=l;cases y with
  |U=>cases d;exact um (wD I q (by simp))
  |X j=>cases d;exact t7 (wD I q (by simp))
  |int j=>obtain⟨e,rfl⟩:=d;exact uo (wD I q (by simp))
  |str j=>obtain⟨e,rfl⟩:=d;exact eq_str (wD I q OT)
  |_=>exact aq (show δ=γ from f) bH
 |V' i=>
  obtain⟨t,rfl⟩:=l;cases y with
  |V' j=>obtain⟨e,rfl⟩:=d;exact W.eq_bytes (wD I q OU)
  |_=>exact aq (show δ=γ from f) bH
 |_=>cases y<;>exact aq (show δ=γ from f) bH
def adx:gi X (bD .NotEq) rNe:=by
 intro m s o H x y v u Q I l d h;obtain⟨f,q⟩:=h;cases x with
 |U=>
  cases l;cases y with
  |U=>cases d;exact t8 (wD I q (by simp))
  |X j=>cases d;exact ua (wD I q (by simp))
  |int j=>obtain⟨e,rfl⟩:=d;exact uq (wD I q (by simp))
  |str j=>obtain⟨e,rfl⟩:=d;exact ur (wD I q (by simp))
  |_=>exact aq (show δ=γ from f) bH
 |X i=>
  cases l;cases y with
  |U=>cases d;exact uc (wD I q (by simp))
  |X j=>cases d;exact ne_bool (wD I q (bE not RY))
  |str j=>obtain⟨e,rfl⟩:=d;exact ud (wD I q (by simp))
  |_=>exact aq (show δ=γ from f) bH
 |int i=>
  obtain⟨t,rfl⟩:=l;cases y with
  |U=>cases d;exact uu (wD I q (by simp))
  |int j=>obtain⟨e,rfl⟩:=d;exact ne_int (wD I q (bE not OS))
  |str j=>obtain⟨e,rfl⟩:=d;exact uv (wD I q (by simp))
  |_=>exact aq (show δ=γ from f) bH
 |str i=>
  obtain⟨t,rfl⟩:=l;cases y with
  |U=>cases d;exact uw (wD I q (by simp))
  |X j=>cases d;exact ue (wD I q (by simp))
  |int j=>obtain⟨e,rfl⟩:=d;exact ux (wD I q (by simp))
  |str j=>obtain⟨e,rfl⟩:=d;exact ne_str (wD I q (bE not OT))
  |_=>exact aq (show δ=γ from f) bH
 |V' i=>
  obtain⟨t,rfl⟩:=l;cases y with
  |V' j=>obtain⟨e,rfl⟩:=d;exact W.ne_bytes (wD I q (bE not OU))
  |_=>exact aq (show δ=γ from f) bH
 |_=>cases y<;>exact aq (show δ=γ from f) bH
set_option r "y Lt i j lt_int;A Gt j i gt_int" in def adϑ0:gi X (bD .ϑ1) (Bx λi j=>.X (decide (ϑ2<ϑ3))):=VS λt t t t t t t q=>ϑ4 q
set_option r "z LtE i j le_int;B GtE j i ge_int" in def adϑ0:gi X (bD .ϑ1) (Bx λi j=>.X (decide (ϑ2<=ϑ3))):=VS λt t t t t t t q=>ϑ4 q
def Z0:gi X (bD .Is) (λx y H Q=>y=.U/\Q (.X (decide (x=.U))) H):=by
 intro d s i H x y v u Q I e f h;obtain⟨rfl,q⟩:=h;cases f;refine is_none_gen (wD I q ?_);cases x<;>first
  |(cases e;rfl)
  |(obtain⟨t,rfl⟩:=e;rfl)
def VW:gi X (bD .IsNot) (λx y H Q=>y=.U/\Q (.X (!decide (x=.U))) H):=by
 intro d s i H x y v u Q I e f h;obtain⟨rfl,q⟩:=h;cases f;refine isnot_none_gen (wD I q ?_);cases x<;>first
  |(cases e;rfl)
  |(obtain⟨t,rfl⟩:=e;rfl)
def VX(o:gi X (bD e) r)(j:PE X a ta)(l:PE X b tb)(m:gE e b=δ):PE X (.Compare a [e] [b] pos) (tOp r ta tb):=by intro d s z H Q I h;exact wpAny_Compare1 (ZC j l I h λv u w x y f i p t q=>o d w z f x y v u Q i p t q) m
def RZ(t:TE):TT:=λe H Q=>t e H λx d=>∃k,x=.X k/\Q k d
def VY(B:gi X (bD i) r)(t:PE X a ta)(w:PE X b tb)(A:gE i b=δ):PT X (.Compare a [i] [b] pos) (RZ (tOp r ta tb)):=by
 intro d s f H Q I h;refine o4 (e3 (t d s f H _ I h) λv M #v[x,j,o,F,C]=>e3 (w d M f j _ o C) λu N #v[y,l,p,G,E]=>
  e3 (B d N f l x y v u _ p F G E) λc P #v[z,m,q,J,k,e,q3]=>?_) A
 subst e;cases J;exact dG #v[m,q,q3]
def NG(r j:R2)(ta tb tc:TE):TE:=λd H Q=>ta d H λx f=>tb d f λy h=>r x y h λz e=>∃k,z=.X k/\
 (if k=γ then tc d e λl i=>j y l i Q else Q (.X δ) e)
def R0(N:gi X (bD p) r)(l:gi X (bD i) T)(F:PE X a ta)(G:PE X b tb)(J:PE X c tc)
  (M:autoParam (lastMarks [p,i] [b,c]=δ) zA4._auto_1):PE X (.Compare a [p,i] [b,c] pos) (NG r T ta tb tc):=by
 intro f s j H Q I h;refine Compare_chain (e3 (F f s j H _ I h) λv s1 #v[x,t,B,W,P]=>chain_link (e3 (G f s1 j t _ B P) λu s2 #v[y,w,C,q,R]=>
  e3 (N f s2 j w x y v u _ C W q R) λd s3 #v[z,m,o,Y,k,e,q3]=>?_)) M
 subst e;cases Y;refine dG ?_;cases k with
 |false=>exact ite_ff #v[.X δ,m,o,U,q3]
 |true=>exact ite_tt (chain_last (e3 (J f s3 j m _ o q3) λw' s4 #v[z',A,E,r4,S]=>l f s4 j A y z' u w' Q E q r4 S))
def R7(T:gi X (bD p) r)(l:gi X (bD i) r')(N:PE X a ta)(P:PE X b tb)(R:PE X c tc)
  (S:autoParam (lastMarks [p,i] [b,c]=δ) zA4._auto_1):PT X (.Compare a [p,i] [b,c] pos) (RZ (NG r r' ta tb tc)):=by
 intro f s j H Q I h;refine isTrue_chain (e3 (N f s j H _ I h) λv s1 #v[x,t,C,r1,Y]=>test_link (e3 (P f s1 j t _ C Y) λu s2 #v[y,w,E,q,q2]=>
  e3 (T f s2 j w x y v u _ E r1 q q2) λd s3 #v[z,m,o,r3,k,e,q3]=>?_)) S
 subst e;cases r3;refine dG ?_;cases k with
 |false=>obtain⟨k',J,W⟩:=q3;cases J;exact ite_ff #v[m,o,W]
 |true=>refine ite_tt (test_last (e3 (R f s3 j m _ o q3) λw' s4 #v[z',A,F,r4,q4]=>e3 (l f s4 j A y z' u w' _ F q r4 q4) λd' s5 #v[z2,B,G,r5,k2,M,q5]=>?_));subst M;cases r5;exact dG #v[B,G,q5]
def HX:(aJ:Nat)<2 ^ 63:=by rw[bX];decide
def NH:gi X (cK .Add) (λx y H Q=>∃i j,x=.str i/\y=.str j/\i.length+j.length<=aJ/\Q (.str (i++j)) H):=by intro d s p H x y v u Q I f l h;obtain⟨i,j,rfl,rfl,e,q⟩:=h;obtain⟨t,rfl⟩:=f;obtain⟨m,rfl⟩:=l;exact add_str (λm o=>#v[.str (i++j),H,I.ri _,#v[_,U],q]) e
def j?(r:c6 [x] f):∃u,f=[u]/\dd x u:=by
 cases r with
 |cons d e=>cases e;exact#v[_,U,d]
def vals2(r:c6 [x,y] j):∃u d,j=[u,d]/\dd x u/\dd y d:=by
 cases r with
 |cons e f=>
  cases f with
  |cons h i=>cases i;exact#v[_,_,U,e,h]
def Qt:xH X (.type "int") (λd H Q=>(∃i,d=[.int i]/\Q (.int i) H)\/∃k,d=[.X k]/\Q (.int (if k then 1 else 0)) H):=by
 intro e s l H d j Q I r h;rcases h with ⟨i,rfl,q⟩|⟨k,rfl,q⟩
 .obtain⟨u,rfl,t,rfl⟩:=j? r;exact call_int_int #v[.int i,H,I,#v[_,U],q]
 .obtain⟨u,rfl,f⟩:=j? r;cases f;exact call_int_bool #v[.int (if k then 1 else 0),H,I.ri _,#v[_,U],q]
end
structure NI(h:Heap)(x dx C:Addr)(mA:Str->Option ab):Prop where
 obj:h.get? x=Z (fD C dx)
 ns:h.Ns1 dx mA
 ne:dx≠x
set_option h true
def Qu{h:Heap}(n:h.Ns1 f mA):∃c,h.get? f=Z c/\∀name,kA name c=Z (mA name):=by
 obtain⟨o,b,p,l,hd,i,_,j⟩:=n;refine#v[o,l,λname=>?_];have e:=j name;unfold nsFind findBy at e;rw[<-Array.find?_toList]at e;unfold kA;rw[hd];dsimp only;split
 .rename_i y q;rw[q]at e;exact bE Z e
 .rename_i q;rw[q]at e;have a:b.toList.any (·.refKey)=δ:=by rw[p6];intro y m;obtain⟨z,t,hkey⟩:=i y (Array.mem_toList_iff.1 m);simp[DictEntry.refKey,hkey]
  have d:¬b.toList.any (·.refKey)=γ:=by rw[a];exact bH
  rw[ak d];exact bE Z e
set_option h false
def NI.look(I:NI h x b C mA):∃a,W.InstAt h x (fD C b) C (Z a)/\∀name,kA name a=Z (mA name):=
 let #v[a,d,c]:=Qu I.ns
 #v[a,#v[I.obj,U,U,d],c]
section
variable{prog:aL}{w:aE}{A:aR}{E:ab->af->Prop}{s:af}{K:aw}{x dx C f:Addr}{mA:Str->Option ab}{name:Str}{v:ab}
def get_map(X:K.In s.heap)(I:NI s.heap x dx C mA)(hg:ko K C name=γ)(b:nD K C=γ)
  (ha:cZ K (.ref C) name=Z O) (d:mA name=Z v) (a:W.handedIn v=γ) (h:Q v { s with toks:=s.toks+1 }):
  ao (model prog w) A (getAttr (.ref x) name expr) Q E s:=by
 obtain⟨od,J,c⟩:=I.look;exact W.get_value X J (mW hg).1 (W.findObj_own b ha U (by rw[c,d])) a h
def R8(X:K.In s.heap)(I:NI s.heap x dx C mA)(a:ko K C name=γ)
  (b:cZ K (.ref C) name=Z (Z (.ref f))) (d:kE K (.ref f)=γ) (e:mA name=O) (h:Q (.ref f,[.ref x]) s):
  ao (model prog w) A (getMethod (.ref x) name pl) Q E s:=by
 obtain⟨i,J,c⟩:=I.look;exact W.method_fn X J (mW a).1 (mW a).2 b (beq_iff_eq.mp d) (by show (kA name i).map (·.isSome)=Z δ;rw[c,e];rfl) h
def VZ(X:K.In s.heap)(I:NI s.heap x dx C mA)
  (hs:cZ K (.ref C) "__setattr__" = Z (Z (.builtin "object.__setattr__"))) (l:rX K C=γ) (o:nO K C name=Z O) (j:nD K C=γ)
  (hw:m9 mA ns) (m:ns.length<=aJ)
  (h:∀h',NI h' x dx C (λy=>if y=name then Z v else mA y)->eh dx s.heap h'->Q () { s with heap:=h',toks:=s.toks+2 }):
  ao (model prog w) A (setAttr (.ref x) name v) Q E s:=by
 obtain⟨od,J,q⟩:=I.look;refine W.set_plain X J hs (W.osa_open (s:={ s with toks:=s.toks+1 }) (r:=O) X J l o λb=>?_);obtain⟨cd,i,e⟩:=W.any_some j;have p:s.heap.get? x=Z #v[.ref C,Z dx,.plain,#[]]:=I.obj;refine ai (ar (ai (ai (wpAny_loadPart p (ai (W.Looks.here (s:={ s with toks:=s.toks+1 }) (W.looks_clsIn X i) ?_))))));rw[e];refine ar (a:=Z dx) (ai (ar (ai ?_)));refine wpAny_nsSet1 (s:={ s with toks:=s.toks+1 }) I.ns λh' c d=>?_;obtain⟨oD,esD,epD,hoD,hdD,hcD⟩:=c.count (ve name v hw);refine ai (wpAny_lookBehind hoD (by rw[hdD];exact pastItsLine_dict (bz hcD (by rw[aU];omega))) ?_);exact ar (h _ #v[(d.2 _ (dR I.ne)).t I.obj,c,I.ne] d)
def R9(X:K.In s.heap)(hm:nP K C=γ)
  (hi:cZ K (.ref C) "__init__" = Z (Z (.ref f))) (hf:W.typeIn K (.ref f)=Z (.type "function"))
  (h:cG (model prog w) (A.under (.builtin "type.__call__" #v[.ref C::vs,a])) (.call (.ref f) #v[.ref (s.heap.objs.size+1)::vs,a]) (W.InitBack (s.heap.objs.size+1) R)
   { s with heap:=(s.heap.push eC).push (fD C s.heap.objs.size) }):
  cG (model prog w) A (.call (.ref C) #v[vs,a]) R s:=by
 obtain⟨b,g,d,t,os⟩:=s;exact rY (nN X hm) (qV X hi) (λself=>W.bind_fn X self hf) (.inl U) h
def Qv(X:K.In s.heap)(hm:nP K C=γ)
  (hi:cZ K (.ref C) "__init__" = Z (Z (.builtin "object.__init__")))
  (hb:∀self,W.Looks (model prog w) s.heap (bindSpecial (.builtin "object.__init__") self) (.builtin "object.__init__", [self]))
  (h:cG (model prog w) (A.under (.builtin "type.__call__" #v[[.ref C],[]])) (.call (.builtin "object.__init__") #v[[.ref (s.heap.objs.size+1)],[]]) (W.InitBack (s.heap.objs.size+1) R)
   { s with heap:=(s.heap.push eC).push (fD C s.heap.objs.size) }):
  cG (model prog w) A (.call (.ref C) #v[[],[]]) R s:=by
 obtain⟨a,g,d,t,os⟩:=s;exact rY (nN X hm) (qV X hi) hb (.inr #v[U,U]) h
end
def BX(f:Str)(v:V):List (Str×V)->List (Str×V)
 |[]=>[(f,v)]
 |(g,x)::r=>if g=f then (g,v)::r else (g,x)::BX f v r
theorem GZ(f g:Str)(v:V):∀fs:List (Str×V),(BX f v fs).lookup g=if g=f then Z v else fs.lookup g
 |[]=>by
  show dO g [(f,v)]=_;by_cases h:g=f
  .have a:(g==f)=γ:=beq_iff_eq.mpr h;simp only[dO,a,aj h]
  .have a:(g==f)=δ:=beq_eq_false_iff_ne.2 h;simp only[dO,a,ak h]
 |(k,x)::r=>by
  have c:=GZ f g v r;rw[show BX f v ((k,x)::r)=(if k=f then (k,v)::r else (k,x)::BX f v r) from U];by_cases b:k=f
  .rw[aj b];by_cases h:g=k
   .have a:(g==k)=γ:=beq_iff_eq.mpr h;simp only[dO,a,aj (h.t b)]
   .have a:(g==k)=δ:=beq_eq_false_iff_ne.2 h;simp only[dO,a,ak (λe:g=f=>h (e.t b.symm))]
  .rw[ak b];by_cases h:g=k
   .have a:(g==k)=γ:=beq_iff_eq.mpr h;simp only[dO,a,ak (λe:g=f=>b (h.symm.t e))]
   .have a:(g==k)=δ:=beq_eq_false_iff_ne.2 h;simp only[dO,a];exact c
theorem Gh(f:Str)(v:V):∀fs:List (Str×V),f∈(BX f v fs).map (·.1)/\∀g,g∈fs.map (·.1)->g∈(BX f v fs).map (·.1)
 |[]=>#v[by simp[BX],λg h=>by simp at h]
 |(k,x)::r=>by
  obtain⟨b,c⟩:=Gh f v r;rw[show BX f v ((k,x)::r)=(if k=f then (k,v)::r else (k,x)::BX f v r) from U];by_cases a:k=f
  .rw[aj a];subst a;exact#v[by simp,λg h=>by simpa using h]
  .rw[ak a];refine#v[?_,λg h=>?_]
   .rw[aV];exact a9 _ b
   .rw[aV]at h ⊢;rcases aM.1 h with e|e
    .exact aM.2 (.inl e)
    .exact a9 _ (c g e)
theorem G0(f:Str)(v:V):∀fs:List (Str×V),(BX f v fs).length<=fs.length+1
 |[]=>by simp[BX]
 |(k,x)::r=>by
  have b:=G0 f v r;rw[show BX f v ((k,x)::r)=(if k=f then (k,v)::r else (k,x)::BX f v r) from U];by_cases a:k=f
  .rw[aj a,aU,aU];omega
  .rw[ak a,aU,aU];omega
def Du.z0(r:Du (Z v) o):∃u,o=Z u/\dd v u:=by
 cases o with
 |none=>exact(show False from r).elim
 |some u=>exact#v[u,U,r]
def Du.none_of(r:Du O o):o=O:=by
 cases o with
 |none=>rfl
 |some u=>exact(show False from r).elim
def Qw(r:dd v u):W.handedIn u=γ:=by
 cases v with
 |U=>cases (show u=Value.none from r);rfl
 |X b=>cases (show u=Value.bool b from r);rfl
 |int i=>obtain⟨t,e⟩:=(show ∃t,u=Value.int i t from r);cases e;rfl
 |str x=>obtain⟨t,e⟩:=(show ∃t,u=Value.str x t from r);cases e;rfl
 |V' b=>obtain⟨t,e⟩:=(show ∃t,u=Value.bytes b t from r);cases e;rfl
 |flt b=>obtain⟨t,e⟩:=(show ∃t,u=Value.float b t from r);cases e;rfl
 |ref a=>cases (show u=Value.ref a from r);rfl
 |ty n=>cases (show u=Value.type n from r);rfl
section
variable{P:aL}{w:aE}{H H':Hp}{h h':Heap}{a C dx:Addr}{fs fs':List (Str×V)}
def E8(ew:n3 P w H h)(e:H a=Z (.ke C dx fs)):∃mA,NI h a dx C mA/\(∀f,Du (fs.lookup f) (mA f))/\m9 mA (fs.map (·.1))/\fs.length<=1000/\H dx=Z (.f5 a):=by obtain⟨d,z,b,c,mA,n,r,q⟩:=(show en P w H h a (.ke C dx fs) from ew a _ e);exact#v[mA,#v[c,n,b],r,q,z,d]
end
structure Fs(K:aw)(C:Addr):Prop where
 pg:ko K C Str.empty=γ
 hd:nD K C=γ
 po:rX K C=γ
 sa:cZ K (.ref C) "__setattr__" = Z (Z (.builtin "object.__setattr__"))
def Fs.get{K:aw}{C:Addr}(c:Fs K C)(f:Str):ko K C f=γ:=c.pg
def BD(K:aw)(C:Addr)(f:Str):Prop:=cZ K (.ref C) f=Z O
def BD.taker{K:aw}{C:Addr}{f:Str}(n:BD K C f):nO K C f=Z O:=by unfold nO;rw[show cZ K (.ref C) f=Z O from n];rfl
structure Meth(K:aw)(C:Addr)(m:Str)(f:Addr):Prop where
 f?:cZ K (.ref C) m=Z (Z (.ref f))
 fn:kE K (.ref f)=γ
 kp:eG K (.ref f)=γ
section
variable{X:Cx}{pins:cO}{σ:St}{H:Hp}{s:af}{a C dx:Addr}{fs:List (Str×V)}{f:Str}{v:V}{A:aR}{E:ab->af->Prop}
def NJ(I:b0 X pins σ H s)(e:H a=Z (.ke C dx fs))(c:Fs X.K C)(n:BD X.K C f)(l:fs.lookup f=Z v)
  (h:∀u i,b0 X pins σ H i->dd v u->Q u i):ao (model X.prog X.w) A (getAttr (.ref a) f b) Q E s:=by
 obtain⟨mA,j,r,_,_,_⟩:=E8 I.ew e;obtain⟨u,m,d⟩:=Du.z0 (v:=v) (o:=mA f) (by rw[<-l];exact r f);exact get_map I.ma j (c.get f) c.hd n m (Qw d) (h u _ (I.ri _) d)
def HY(I:b0 X pins σ H s)(e:H a=Z (.ke C dx fs))(c:Fs X.K C)(k:Meth X.K C m g)(l:fs.lookup m=O)
  (h:Q (.ref g,[.ref a]) s):ao (model X.prog X.w) A (getMethod (.ref a) m pl) Q E s:=by
 obtain⟨mA,b,r,_,_,_⟩:=E8 I.ew e;have d:mA m=O:=Du.none_of (by rw[<-l];exact r m);exact R8 I.ma b (c.get m) k.f? k.fn d h
def NK(I:b0 X pins σ H s)(e:H a=Z (.ke C dx fs))(c:Fs X.K C)(n:BD X.K C f)(N:fs.length<1000)(J:dd y u)
  (h:∀l,b0 X pins σ (ef H a (.ke C dx (BX f y fs))) l->Q () l):ao (model X.prog X.w) A (setAttr (.ref a) f u) Q E s:=by
 obtain⟨mA,d,r,m,_,j⟩:=E8 I.ew e;have G:(fs.map (·.1)).length<=aJ:=by rw[ae,bX];omega
 refine VZ I.ma d c.sa c.po n.taker c.hd m G λt i M=>h _ ?_;have hd:∃o,t.get? dx=Z o:=let #v[o,_,_,p,_]:=i.ns;#v[o,p];refine I.sx (x:=a) (e:=dx) (by rw[e];exact True.intro) (.inr j) (λb q B z=>(M.2 b B).t z) hd ?_;refine#v[by rw[vM d.ne];exact j,?_,d.ne,i.obj,_,i.ns,λg=>?_,λg F=>?_]
 .have:=G0 f y fs;omega
 .show Du ((BX f y fs).lookup g) (if g=f then Z u else mA g);rw[GZ];by_cases q:g=f
  .rw[aj q,aj q];exact J
  .rw[ak q,ak q];exact r g
 .by_cases q:g=f
  .rw[q];exact(Gh f y fs).1
  .refine(Gh f y fs).2 g (m g λz=>F ?_);show (if g=f then Z u else mA g)=O;rw[ak q];exact z
def b0.made(I:b0 X pins σ H s):b0 X pins σ (ef (ef H s.heap.objs.size (.f5 (s.heap.objs.size+1))) (s.heap.objs.size+1) (.ke C s.heap.objs.size []))
  { s with heap:=(s.heap.push eC).push (fD C s.heap.objs.size) }:=by
 have c:(s.heap.push eC).get? s.heap.objs.size=Z eC:=bA s.heap U;have h:((s.heap.push eC).push (fD C s.heap.objs.size)).get? (s.heap.objs.size+1)=Z (fD C s.heap.objs.size):=by
  have:=bA (s.heap.push eC) (o:=fD C s.heap.objs.size) U
  rwa [c9]at this
 have i:(s.heap.push eC).Ns s.heap.objs.size (λt=>O):=#v[eC,#[],_,c,U,(λe j=>aq j (by simp)),λt=>U];have d:=I.laid (a:=s.heap.objs.size) (o:=.f5 (s.heap.objs.size+1)) (h':=s.heap.push eC) (t':=s.toks) (λb u q=>aT _ q) (aI _) #v[_,c];refine d.laid (a:=s.heap.objs.size+1) (o:=.ke C s.heap.objs.size []) (t':=s.toks) (λb u q=>aT _ q) (rM (c9 _ _)) ?_;have ne:s.heap.objs.size≠s.heap.objs.size+1:=bj (dJ _);refine#v[by rw[vM ne,vI],bR _,ne,h,λt=>O,(Heap.Ns1.of_empty i).at λo q=>aT _ q,λt=>True.intro,λy l=>aq U l]
def V0(c:fA e f a4 (eval e a4)=eval e a4)
  (h:ao (model prog w) A (eval e a4) (λo b=>ao (model prog w) A (getAttr o f γ) Q E b) E s):ao (model prog w) A (eval (.Attribute e f pos) a4) Q E s:=
 Attribute_any_ h (by rw[arm_eval_Attribute,c])
end
def tFld(K:aw)(d:TE)(f:Str):TE:=λe H Q=>d e H λx b=>∃a C c fs v,x=.ref a/\b a=Z (.ke C c fs)/\Fs K C/\BD K C f/\fs.lookup f=Z v/\Q v b
def sFld(K:aw)(h i:TE)(f:Str):TS:=λD b H=>i b H λy e=>h b e λx c=>∃a C d fs,x=.ref a/\c a=Z (.ke C d fs)/\Fs K C/\BD K C f/\fs.length<1000/\
 D.nx b (ef c a (.ke C d (BX f y fs)))
section
variable{X:Cx}{o e value:Expr}{f:Str}{pos pos' tpos:Pos}{ta tv:TE}
def Z1(t:PE X e ta)(r:fA e f X.a4 (eval e X.a4)=eval e X.a4):PE X (.Attribute e f pos) (tFld X.K ta f):=by intro b s z H Q I h;refine V0 r (e3 (t b s z H _ I h) λu B zz=>?_);obtain⟨x,d,i,y,a,C,A,fs,v,p,m,c,n,l,q⟩:=zz;subst p;obtain rfl:u=Value.ref a:=y;exact NJ i m c n l λF E j w=>#v[v,d,j,w,q]
def Z2(w:PE X o ta)(A:PE X value tv)(z:dQ value (Z (.Attribute o f pos')) pos.line X.a4=pure δ):PS X (.Assign [.Attribute o f pos'] value pos) (sFld X.K ta tv f):=by intro b s d H D I h;refine plainObj_wpAny_Assign_Attribute (e3 (A b s d H _ I h) λu J #v[y,i,j,G,q]=>e3 (w b J d i _ j q) λB P zz=>?_) z;obtain⟨x,M,m,F,a,C,N,fs,t,r,c,n,l,E⟩:=zz;subst t;obtain rfl:B=Value.ref a:=F;exact NK m r c n l G λQ p=>#v[d,_,p,E]
end
section
variable{X:Cx}{pins:cO}{σ:St}{H:Hp}{s:af}{A:aR}{E:ab->af->Prop}{Q:ab->af->Prop}{c:ab}{b:Bool}
inductive HA(K:aw) (H:Hp):V->ab->Prop where
 |U:HA K H .U (.type "NoneType")
 |X (x:Bool):HA K H (.X x) (.type "bool")
 |int (i:Int):HA K H (.int i) (.type "int")
 |str (x:Str):HA K H (.str x) (.type "str")
 |flt (x:UInt64):HA K H (.flt x) (.type "float")
 |a3 {a:Addr} {xs:bF} (e:H a=Z (.a3 xs)):HA K H (.ref a) (.type "list")
 |mr {a:Addr} {o:Obj} {xs:bF} (e:H a=Z (.mr o (.a3 xs))):HA K H (.ref a) (.type "list")
 |a7 {a:Addr} {xs:bF} (e:H a=Z (.a7 xs)):HA K H (.ref a) (.type "tuple")
 |dK {a:Addr} {kvs:List (d?×V)} (e:H a=Z (.dK kvs)):HA K H (.ref a) (.type "dict")
 |dT {a:Addr} {kvs:List (List d?×V)} (e:H a=Z (.dT kvs)):HA K H (.ref a) (.type "dict")
 |ke {a C dx:Addr} {fs:List (Str×V)} (e:H a=Z (.ke C dx fs)) (cl:Fs K C) (ha:cZ K (.ref C) "__class__" = Z (Z (.builtin "object.__class__")))
   (hn:rZ K (.builtin "object.__class__") "__get__" = Z (Z (.builtin "getset_descriptor.__get__"))) (htk:W.takesIn K (.builtin "object.__class__")=Z γ)
   (hm:W.mroIn K C (.type "object")=Z γ):HA K H (.ref a) (.ref C)
def Ax(I:b0 X pins σ H s)(f:dd x u)(ty:HA X.K H x t)(e:cM X.K t c=Z b)(h:∀tk,Q (.bool b) { s with toks:=tk }):
  ao (model X.prog X.w) A (call (.builtin "isinstance") [u,c]) Q E s:=by
 cases ty with
 |U=>cases (show u=Value.none from f);exact cQ r6 I.ma True.intro e (λz=>nomatch z) h
 |X y=>cases (show u=Value.bool y from f);exact cQ sd I.ma True.intro e (λz=>nomatch z) h
 |int i=>obtain⟨t,q⟩:=(show ∃t,u=Value.int i t from f);cases q;exact cQ W.kitx_int I.ma True.intro e (λz=>nomatch z) h
 |str y=>obtain⟨t,q⟩:=(show ∃t,u=Value.str y t from f);cases q;exact cQ W.kitx_str I.ma True.intro e (λz=>nomatch z) h
 |flt y=>obtain⟨t,q⟩:=(show ∃t,u=Value.float y t from f);cases q;exact cQ W.kitx_float I.ma True.intro e (λz=>nomatch z) h
 |@a3 a xs d=>cases (show u=Value.ref a from f);obtain⟨_,_,n,_,h1⟩:=(show en X.prog X.w H s.heap a (.a3 xs) from I.ew a _ d);exact cQ jo I.ma #v[_,h1,U] e (λz=>nomatch z) h
 |@mr a ob xs d=>cases (show u=Value.ref a from f);obtain⟨_,_,_,n,_,h1⟩:=(show en X.prog X.w H s.heap a (.mr ob (.a3 xs)) from I.ew a _ d);exact cQ jo I.ma #v[_,h1,U] e (λz=>nomatch z) h
 |@a7 a xs d=>cases (show u=Value.ref a from f);obtain⟨_,_,_,p,_⟩:=(show en X.prog X.w H s.heap a (.a7 xs) from I.ew a _ d);obtain⟨o,h1,h2,_⟩:=p;exact cQ ng I.ma #v[o,h1,h2] e (λz=>nomatch z) h
 |@dK a kvs d=>cases (show u=Value.ref a from f);obtain⟨_,_,vs,_,p⟩:=(show en X.prog X.w H s.heap a (.dK kvs) from I.ew a _ d);obtain⟨o,es,ep,h1,h2,_⟩:=p;exact cQ iG I.ma #v[o,h1,h2.1] e (λz=>nomatch z) h
 |@dT a kvs d=>cases (show u=Value.ref a from f);obtain⟨_,_,xs,_,o,es,ep,h1,h2,_⟩:=(show en X.prog X.w H s.heap a (.dT kvs) from I.ew a _ d);exact cQ iG I.ma #v[o,h1,h2.1] e (λz=>nomatch z) h
 |@ke a C dx fs d cl ha hn htk hm=>cases (show u=Value.ref a from f);obtain⟨mA,j,_⟩:=E8 I.ew d;obtain⟨od,J,_⟩:=j.look;exact cQ (W.kitx_own (cl.get _) cl.hd ha hn htk hm) I.ma J e (λz=>nomatch z) h
end
structure ye(k:Nat)(A:aR):Prop where
 hd:A.handled=O
 dp:A.depth+3 * k+5<recursionLimit
 un:A.units+16 * k+200<cLine
def ye.mono(r:ye k A)(h:j<=k):ye j A:=#v[r.hd,by have:=r.dp;omega,by have:=r.un;omega]
theorem ye.deeper(r:ye (k+1) A)(a4:Env):ye k (A.deeper a4):=
 #v[r.hd,by have:=r.dp;show A.depth+1+3 * k+5<_;omega,by have:=r.un;show A.units+3+16 * k+200<_;omega]
def NM{A:aR}:(A.under (.builtin "type.__call__" #v[.ref C::b,a])).depth=A.depth+1:=by
 first|rfl|simp[nh,Code.weight,Code.isCreation,Code.isGuard,Code.isCaller,se,ni,guardIds]
def NN{A:aR}:(A.under (.builtin "type.__call__" #v[.ref C::b,a])).units=A.units+1:=by
 first|rfl|simp[nh,Code.cUnits,se,ni]
def ye.make(r:ye (k+1) A)(C:Addr)(b:List ab)(a:List (Str×ab)):ye k (A.under (.builtin "type.__call__" #v[.ref C::b,a])):=
 #v[r.hd,by have:=r.dp;rw[NM];omega,by have:=r.un;rw[NN];omega]
theorem ye.depth(r:ye k A):A.depth<recursionLimit:=by have:=r.dp;omega
theorem ye.units(r:ye k A):A.units+64<cLine:=by have:=r.un;omega
def Jy:TA:=λt H Q=>Q [] H
def E9(d:TE)(e:TA):TA:=λa H Q=>d a H λx b=>e a b λf c=>Q (x::f) c
section
variable{X:Cx}{e:Expr}{es:List Expr}{te:TE}{t:TA}{pos:Pos}
def AJ:PA X [] Jy:=λt t t t H Q I h=>gq #v[[],H,I,.nil,h]
def yx(j:PE X e te)(l:PA X es t)(m:autoParam (aF (e::es) X.a4=(δ,eval e X.a4)::aF es X.a4) zA0._auto_1):PA X (e::es) (E9 te t):=by intro pos a s b H Q I h;rw[m];show ao _ _ (spliced ((δ,eval e X.a4)::bO pos (aF es X.a4))) _ _ s;refine eX (e3 (j a s b H _ I h) λu w zz=>?_);obtain⟨x,c,f,q,o⟩:=zz;exact e3 (l pos a w b c _ f o) λA z #v[y,d,i,r,p]=>#v[x::y,d,i,.cons q r,p]
set_option r "Tup 7;Lst 3" in def tϑ0(t:TA):TE:=λc H Q=>t c H λb a=>b.length<=aJ/\∀p,a p=O->Q (.ref p) (ef a p (.aϑ1 b))
def Sa{m}(h:PA X es t):PE X (.Tuple es m pos) (tTup t):=by intro a s w H Q I j;refine wpAny_Tuple_spliced (e3 (h pos a s w H _ I j) λl c #v[p,d,f,r,z,q]=>#v[by rw[<-r.length];exact z,?_]);have i:d c.heap.objs.size=O:=f.ew.fresh (aI _);refine#v[.ref c.heap.objs.size,ef d c.heap.objs.size (.a7 p),f.laid (t':=c.toks) (λb u e=>aT _ e) (aI _) ?_,U,q _ i];exact#v[z,l,r,#v[_,bA _ U,U,_,U],λo e=>by rw[bA _ U]at e;cases e;rfl]
def Sb(h:PA X es t):PE X (.List es pos) (tLst t):=by intro a s o H Q I j;refine wpAny_List_spliced (e3 (h pos a s o H _ I j) λl c #v[m,d,f,r,z,q]=>#v[by rw[<-r.length];exact z,?_]);have i:d c.heap.objs.size=O:=f.ew.fresh (aI _);refine#v[.ref c.heap.objs.size,ef d c.heap.objs.size (.a3 m),f.laid (t':=c.toks) (λb u e=>aT _ e) (aI _) ?_,U,q _ i];exact#v[z,l,0,r,bA _ U]
end
abbrev Sp:=bF->Hp->VK->XK->Prop
abbrev ι:=List Env->Hp->af->XK->ab->af->Prop
structure NO(P:aL)(w:aE)(K:aw)(mg:Str->Option ab)(a5:Heap)(A:aR)(b4:List Env)(s:af)(H:Hp):Prop where
 frames:A.frames=Z b4
 w6:Mod K mg a5
 bs:∀b o,a5.get? b=Z o->s.heap.get? b=Z o/\H b=O
 Y?:a5.objs.size<=s.heap.objs.size
 qq:s.heap.FunFrames a5 b4
 frf:∀b∈π b4,H b=O
 ew:n3 P w H s.heap
 i2:fE s.gens
def CE(b4:List Env)(P:aL)(w:aE)(H:Hp)(s:af)(Q:VK)(u:ab)(a:af):Prop:=
 ∃v b,a.os=s.os/\fE a.gens/\Un (π b4) [] H b s.heap a.heap/\n3 P w b a.heap/\dd v u/\Q v b
def CR(CX:ι)(b4:List Env)(P:aL)(w:aE)(H:Hp)(s:af)(Q:VK)(E:XK)(r:gX)(a:af):Prop:=
 match r with
 |.ok (.ret u)=>CE b4 P w H s Q u a
 |.ok _=>False
 |.error e=>CX b4 H s E e a
structure zI(P:aL)(w:aE)(K:aw)(mg:Str->Option ab)(a5:Heap)(CX:ι)(k:Nat)(f:Addr)(fd:cn)(ps:aB)(sp:Sp):Prop where
 len:∀vs H Q E,sp vs H Q E->vs.length=ps.length
 run:∀(A:aR) (b4:List Env) (s:af) (H:Hp) (args:Args) (us:List ab) (vs:bF) (Q:VK) (E:XK),ye k A->NO P w K mg a5 A b4 s H->iN s fd args (ps.zip us)->c6 vs us->sp vs H Q E->
  cG (model P w) A (.call (.ref f) args) (CR CX b4 P w H s Q E) s
theorem zI.mono{P:aL}{w:aE}{K:aw}{b:Str->Option ab}{a5:Heap}{CX:ι}{j k:Nat}{f:Addr}{a:cn}{c:aB}{d:Sp}(F:zI P w K b a5 CX j f a c d)(h:j<=k):
  zI P w K b a5 CX k f a c d:=#v[F.len,λA b4 s H args i l Q E e=>F.run A b4 s H args i l Q E (e.mono h)]
theorem zI.imp{P:aL}{w:aE}{K:aw}{d:Str->Option ab}{a5:Heap}{CX:ι}{k:Nat}{f:Addr}{c:cn}{ps:aB}{e b:Sp}(F:zI P w K d a5 CX k f c ps e)
  (h:∀a H Q E,b a H Q E->e a H Q E):zI P w K d a5 CX k f c ps b:=
 #v[λa H Q E q=>F.len a H Q E (h _ _ _ _ q),λA b4 s H args p a Q E l j i o m=>F.run A b4 s H args p a Q E l j i o (h _ _ _ _ m)]
def NO.make{P:aL}{w:aE}{K:aw}{a:Str->Option ab}{a5:Heap}{A:aR}{b4:List Env}{s:af}{H:Hp}(e:NO P w K a a5 A b4 s H)(C:Addr)(c:List ab)(b:List (Str×ab)):
  NO P w K a a5 (A.under (.builtin "type.__call__" #v[.ref C::c,b])) b4 s H:=#v[by first|exact e.frames|(simpa [nh,Code.envs,ni,pushEnvs]using e.frames),e.w6,e.bs,e.Y?,e.qq,e.frf,e.ew,e.i2]
section
variable{X:Cx}{pins:cO}{σ:St}{H:Hp}{s s':af}
def b0.env0(I:b0 X pins σ H s):NO X.prog X.w X.K X.mg X.a5 X.A X.stack s H:=
 #v[I.ok.frames,I.ok.w6,I.bs,bz I.ok.Y? I.sz,I.stack,I.K3,I.ew,I.i2]
def b0.after(I:b0 X pins σ H s)(h:CE X.stack X.prog X.w H s Q u s'):EP X pins σ Q u s':=by obtain⟨v,c,os,i2,un,ew,r,q⟩:=h;obtain⟨e,g,d,t,a⟩:=s';obtain rfl:a=s.os:=os;exact#v[v,c,I.call (h':=e) (g':=g) (d':=d) (t':=t) (ch:=[]) un ew i2 (λb z=>aq z (by simp)),r,q]
end
def HZ(b:Sp)(dvs:bF)(E:XK)(t:TA):TE:=λd H Q=>t d H λc a=>b (c++dvs) a Q E
def Yn(C:Addr)(d:Sp)(dvs:bF)(E:XK)(t:TA):TE:=λf H Q=>t f H λe b=>∀x a,b x=O->b a=O->a≠x->
 d (.ref x::(e++dvs)) (ef (ef b a (.f5 x)) x (.ke C a [])) (λv c=>v=.U/\Q (.ref x) c) E
def i?(K:aw)(d:cn)(c:aB)(b:List ab):Prop:=
 ∀(s:af) (a:List ab),K.In s.heap->(a++b).length=c.length->iN s d #v[a,[]] (c.zip (a++b))
def i?.all{K:aw}{c:cn}{b:aB}(h:∀a:List ab,a.length=b.length->bindArgs c #v[a,[]]=pure (b.zip a)):i? K c b []:=λs a t d=>by rw[cf]at d ⊢;exact .of_eq (h a d)
def nr(CX:ι)(X:Cx)(E:XK):Prop:=∀(a:cO) (c:St) (H:Hp) (s:af) (e:ab) (b:af),b0 X a c H s->CX X.stack H s E e b->X.xe e b
section
variable{X:Cx}{CX:ι}{k:Nat}{f C:Addr}{fd:cn}{ps:aB}{sp:Sp}{dvs:bF}{ds:List ab}{E:XK}{x m:Str}{p pos apos:Pos}{e o:Expr}{es:List Expr}{ta:TE}{t:TA}
theorem KB(F:zI X.prog X.w X.K X.mg X.a5 CX k f fd ps sp)(l:ye k X.A)(i:i? X.K fd ps ds)(hd:c6 dvs ds)(q:nr CX X E)
  (I:b0 X a d H s) (r:c6 vs us) (h:sp (vs++dvs) H Q E):ao (model X.prog X.w) X.A (call (.ref f) us) (EP X a d Q) X.xe s:=by
 have c:c6 (vs++dvs) (us++ds):=r.append hd;have j:(us++ds).length=ps.length:=by rw[<-c.length];exact F.len _ _ _ _ h
 refine kq (iA (F.run X.A X.stack s H #v[us,[]] (us++ds) (vs++dvs) Q E l I.env0 (i s us I.ma j) c h) λr y b=>?_);cases r with
 |error e=>exact q a d H s e y I b
 |ok fl=>
  cases fl with
  |ret u=>exact I.after b
  |next=>exact dc b
  |brk=>exact dc b
  |cont=>exact dc b
def OV(F:zI X.prog X.w X.K X.mg X.a5 CX k f fd ps sp)(B:ye k X.A)(u:Gl X x)(z:X.mg x=Z (.ref f))(y:eG X.K (.ref f)=γ)(j:i? X.K fd ps ds)(hd:c6 dvs ds)(G:nr CX X E)
  (i:PA X (e::es) t) (b:autoParam ((x==("__debug__" : Str))=δ) zA1._auto_1) (l:autoParam (aF (e::es) X.a4=(δ,eval e X.a4)::aF es X.a4) zA0._auto_1) (hpl:autoParam ((bO pos (aF es X.a4)).any (·.1)=δ) zA0._auto_1):
  PE X (.Call (.Name x p) (e::es) [] pos) (HZ sp dvs E t):=by
 intro a s J H Q I h;refine d4 (E6 I u z ?_ b);refine nu (h₀:=X.a5) I.ok.w6.kin y (e3 (i pos a s J H _ I h) λP N #v[R,M,c,r,q]=>#v[c.ma,?_]) l hpl;exact KB F B j hd G c r q
def Sg(F:zI X.prog X.w X.K X.mg X.a5 CX k f fd ps sp)(l:ye k X.A)(d:Gl X x)(j:X.mg x=Z (.ref f))(i:eG X.K (.ref f)=γ)(c:i? X.K fd ps ds)(hd:c6 dvs ds)(q:nr CX X E)
  (a:autoParam ((x==("__debug__" : Str))=δ) zA1._auto_1):PE X (.Call (.Name x p) [] [] pos) (HZ sp dvs E Jy):=by
 intro b s u H Q I h;refine d4 (E6 I d j ?_ a);exact mX I.ma i (KB (us:=[]) F l c hd q I .nil h)
structure Mk(K:aw)(C f:Addr):Prop where
 K?:nP K C=γ
 init:cZ K (.ref C) "__init__" = Z (Z (.ref f))
 fn:kE K (.ref f)=γ
 kp:eG K (.ref C)=γ
theorem Sh(M:Mk X.K C f)(F:zI X.prog X.w X.K X.mg X.a5 CX k f fd ps sp)(R:ye (k+1) X.A)(N:i? X.K fd ps ds)(hd:c6 dvs ds)
  (S:nr CX X E) (I:b0 X b y H s) (r:c6 q c)
  (h:∀x i,H x=O->H i=O->i≠x->sp (.ref x::(q++dvs)) (ef (ef H i (.f5 x)) x (.ke C i [])) (λv B=>v=.U/\Q (.ref x) B) E):
  ao (model X.prog X.w) X.A (call (.ref C) c) (EP X b y Q) X.xe s:=by
 have j:=h (s.heap.objs.size+1) s.heap.objs.size (I.ew.fresh (fW _)) (I.ew.fresh (aI _)) (bj (dJ _));have d:=b0.made (C:=C) I;have l:c6 (V.ref (s.heap.objs.size+1)::(q++dvs)) (Value.ref (s.heap.objs.size+1)::(c++ds)):=.cons U (r.append hd);have P:(Value.ref (s.heap.objs.size+1)::c++ds).length=ps.length:=by have e:=l.length;rw[F.len _ _ _ _ j]at e;exact e.symm
 refine kq (R9 (f:=f) I.ma M.K? M.init (beq_iff_eq.mp M.fn) (iA (F.run _ X.stack _ _ #v[Value.ref (s.heap.objs.size+1)::c,[]] (Value.ref (s.heap.objs.size+1)::(c++ds)) _ _ E (R.make C c [])
  (d.env0.make C c []) (N _ (Value.ref (s.heap.objs.size+1)::c) d.ma P) l j) λr W a=>?_))
 cases r with
 |error e=>exact S b y _ _ e W d a
 |ok fl=>
  cases fl with
  |ret u=>obtain⟨v,z,G,T,J,q3⟩:=d.after a;subst J;exact#v[T,#v[V.ref (s.heap.objs.size+1),z,G,U,q3]]
  |next=>exact dc a
  |brk=>exact dc a
  |cont=>exact dc a
def V1(M:Mk X.K C f)(F:zI X.prog X.w X.K X.mg X.a5 CX k f fd ps sp)(z:ye (k+1) X.A)(u:Gl X x)(y:X.mg x=Z (.ref C))(j:i? X.K fd ps ds)(hd:c6 dvs ds)(B:nr CX X E)
  (i:PA X (e::es) t) (b:autoParam ((x==("__debug__" : Str))=δ) zA1._auto_1) (l:autoParam (aF (e::es) X.a4=(δ,eval e X.a4)::aF es X.a4) zA0._auto_1) (hpl:autoParam ((bO pos (aF es X.a4)).any (·.1)=δ) zA0._auto_1):
  PE X (.Call (.Name x p) (e::es) [] pos) (Yn C sp dvs E t):=by
 intro a s G H Q I h;refine d4 (E6 I u y ?_ b);refine nu (h₀:=X.a5) I.ok.w6.kin M.kp (e3 (i pos a s G H _ I h) λP N #v[R,J,c,r,q]=>#v[c.ma,?_]) l hpl;exact Sh M F z j hd B c r q
end
structure yJ(N P:aB)(sc:cR):Prop where
 kind:sc.kind=.function
 co:sc.isCoroutine=δ
 n9:sc.isGenerator=δ
 nd:N.Nodup
 pre:N.take P.length=P
 par:∀x∈P,sc.names.lookup x=Z .local\/sc.names.lookup x=Z .cell
 nofree:∀y∈sc.names,y.2≠.free
theorem JP{kindOf:Str->Option eI}{x:Str}:∀{p0:List (Str×ab)} {m:Str->Option ab},(∀v,(x,v)∉p0)->bindL kindOf p0 m x=m x
 |[],_,_=>rfl
 |(n,v)::r,m,h=>by
  unfold bindL;rw[JP λw a=>h w (a9 _ a)];split
  .have:x≠n:=by rintro rfl;exact h v ba
   simp[this]
  .rfl
theorem JQ{kindOf:Str->Option eI}{x:Str}:∀{p0:List (Str×ab)} {m:Str->Option ab},(∀v,(x,v)∉p0)->bindC kindOf p0 m x=m x
 |[],_,_=>rfl
 |(n,v)::r,m,h=>by
  unfold bindC;rw[JQ λw a=>h w (a9 _ a)];split
  .rfl
  .have:x≠n:=by rintro rfl;exact h v ba
   simp[this]
theorem JR{kindOf:Str->Option eI}{x:Str}{v:ab}:∀{P:aB} {a:List ab} {i:Nat} {m:Str->Option ab},P.Nodup->P[i]?=Z x->a[i]?=Z v->kindOf x=Z .local->
  bindL kindOf (P.zip a) m x=Z v
 |[],_,_,_,_,h,_,_=>by simp at h
 |_::_,[],_,_,_,_,h,_=>by simp at h
 |p::P,w::a,0,m,e,b,c,d=>by simp at b c;subst b;subst c;show bindL kindOf ((p,w)::P.zip a) m p=_;unfold bindL;rw[JP λv f=>(dM.1 e).1 (j8 f).1,aj d];simp
 |p::P,w::a,i+1,m,e,b,c,d=>by show bindL kindOf ((p,w)::P.zip a) m x=_;unfold bindL;exact JR (i:=i) (dM.1 e).2 (by simpa using b) (by simpa using c) d
theorem JS{kindOf:Str->Option eI}{x:Str}{v:ab}:∀{P:aB} {a:List ab} {i:Nat} {m:Str->Option ab},P.Nodup->P[i]?=Z x->a[i]?=Z v->kindOf x≠Z .local->
  bindC kindOf (P.zip a) m x=Z v
 |[],_,_,_,_,h,_,_=>by simp at h
 |_::_,[],_,_,_,_,h,_=>by simp at h
 |p::P,w::a,0,m,e,b,c,d=>by simp at b c;subst b;subst c;show bindC kindOf ((p,w)::P.zip a) m p=_;unfold bindC;rw[JQ λv f=>(dM.1 e).1 (j8 f).1,ak d];simp
 |p::P,w::a,i+1,m,e,b,c,d=>by show bindC kindOf ((p,w)::P.zip a) m x=_;unfold bindC;exact JS (i:=i) (dM.1 e).2 (by simpa using b) (by simpa using c) d
def start(N:aB)(a:bF):St:=a.map Z++fw (N.length - a.length) O
def LW(CX:ι)(P:aL)(w:aE)(K:aw)(mg:Str->Option ab)(a5:Heap)(N:aB)(qual:Str)(scope:cR)(f:Addr)(cd:ab)(A:aR)(b4:List Env)(s:af)(H:Hp)(E:XK):Cx where
 prog:=P
 w:=w
 K:=K
 mg:=mg
 a5:=a5
 A:=A.deeper (envOfC qual scope s.heap.objs.size f cd)
 N:=N
 s₀:=s
 H₀:=H
 a4:=envOfC qual scope s.heap.objs.size f cd
 b4:=b4
 stack:=envOfC qual scope s.heap.objs.size f cd::b4
 ex:=[]
 mi:=γ
 fn:=λt=>γ
 pn:=[]
 xe:=λe c=>ao (model P w) (A.deeper (envOfC qual scope s.heap.objs.size f cd)) (leaving (envOfC qual scope s.heap.objs.size f cd) e) (λt a=>CX b4 H s E e a) (λb a=>CX b4 H s E b a) c
def LX{a:cR}(h:a.names.lookup x=Z .cell):∃c,(cellsFrom n a.names []).lookup x=Z c:=by have q:=qr a.names n [] (.inl h);exact oK.1 q
def Qx{CX:ι}{P:aL}{w:aE}{K:aw}{F:Str->Option ab}{a5:Heap}{N m:aB}{qual:Str}{scope:cR}{f:Addr}{cd:ab}{A:aR}{b4:List Env}{s M:af}{H:Hp}{E:XK}{G:List ab}{o:bF}
  (S:yJ N m scope) (hd:A.handled=O) (j:NO P w K F a5 A b4 s H) (W:o.length=m.length) (r:c6 o G)
  (x:InCallC s s.heap.objs.size (bindL (envOfC qual scope s.heap.objs.size f cd).kindOf (m.zip G) λ_=>O) (cellsFrom (s.heap.objs.size+1) scope.names []) (bindC (envOfC qual scope s.heap.objs.size f cd).kindOf (m.zip G) λ_=>O) M):
  b0 (LW CX P w K F a5 N qual scope f cd A b4 s H E) [] (start N o) H M:=by
 have hpl:m.length<=N.length:=by have:=bE cP S.pre;rw[cv]at this;omega
 obtain⟨B,X,rfl,I⟩:=x.done;have noA:∀b:Addr,b∉(LW CX P w K F a5 N qual scope f cd A b4 s H E).ex:=λb z=>aq (show b∈([]:List Addr) from z) (by simp);refine#v[#v[j.w6,S.kind,U,U,aI _,λy z c B d=>?_,λy l=>?_,λy c _ h=>?_,λ_=>hd,Around.frames_deeper j.frames,.inr #v[U,U],λb z=>aq z (noA b),j.bs,j.Y?,λb _ _=>noA b,λb z=>aq z (noA b),j.qq,j.frf],
  rfl,j.i2,Un.fh I,#v[_,x.toInCall.ns,λi y v B d T=>?_],λy c h=>#v[_,x.cell y c h],j.ew.fresh (aI _),λy c h=>?_,λp t=>aq (show p∈([]:cO) from t) (by simp),j.ew.fh I,?_]
 .exact name_of_addr x.apart (i9 B) (i9 d)
 .have l:scope.names.lookup y=Z .cell\/scope.names.lookup y=Z .free:=l;rcases l with l|l
  .exact LX l
  .exact aq U (S.nofree _ (i9 l))
 .exact iz (x.above y c (i9 h))
 .have C:i<o.length:=by
   unfold start at d;by_cases C:i<o.length
   .exact C
   .rw[gf (by simpa using C)]at d;rw[jJ]at d;split at d<;>cases d
  have Q:o[i]?=Z v:=by
   unfold start at d;rw[gh (by simpa using C),bg]at d;cases e:o[i]? with
   |none=>rw[e]at d;cases d
   |some a=>rw[e]at d;cases d;rfl
  obtain⟨u,J,R⟩:=r.get Q;have t:m[i]?=Z y:=by rw[<-S.pre,List.getElem?_take_of_lt (by omega)];exact B
  have ndP:m.Nodup:=by rw[<-S.pre];exact S.nd.sublist (jT _ _)
  refine#v[u,R,?_];rcases S.par y (bV t)with k|k
  .exact .inl #v[k,JR ndP t J k]
  .obtain⟨c,e⟩:=LX (n:=s.heap.objs.size+1) k;refine .inr #v[.inl k,c,e,?_];have q:=x.cell y c e;rw[JS ndP t J (by show scope.names.lookup y≠_;rw[k];decide)]at q;exact q
 .exact j.ew.fresh (iz (x.above y c (i9 h)))
 .unfold start;show _=N.length;rw[aA,ae,c7];omega
def Yo{CX:ι}{P:aL}{w:aE}{K:aw}{j:Str->Option ab}{a5:Heap}{k:Nat}{f:Addr}{name qual:Str}{params:Arguments}{body:List Stmt}{scope:cR}{dV kV doc pm cdv F oc:ab}{C od:Option Addr}
  {osl:Array (Option ab)} {N l:aB} {B:Sp} (lk:K.lookup f=Z #v[oc,od,.func (fH name qual params body scope dV kV doc pm C cdv F),osl]) (hcd:iK K cdv qual=γ) (S:yJ N l scope)
  (len:∀a H Q E,B a H Q E->a.length=l.length)
  (hbody:∀(A:aR) (b4:List Env) (s:af) (H:Hp) (a:bF) (Q:VK) (E:XK),ye k (A.deeper (envOfC qual scope s.heap.objs.size f cdv))->B a H Q E->
   ∃t,m? (LW CX P w K j a5 N qual scope f cdv A b4 s H E) body t/\t { nx:=λ_ d=>Q .U d,rt:=Q } (start N a) H):
  zI P w K j a5 CX (k+1) f (fH name qual params body scope dV kV doc pm C cdv F) l B:=by
 refine#v[len,λA b4 s H args us a Q E m i M r hsp=>?_];have T:=len _ _ _ _ hsp;have KX:K.In s.heap:=i.w6.kin.keeps λb o e=>(i.bs b o e).1;have lim:s.heap.NoLimit:=i.w6.nolimit.keeps λb o e=>(i.bs b o e).1;have hkind:∀y∈l.zip us,scope.names.lookup y.1=Z .local\/(scope.names.lookup y.1=Z .cell/\((cellsFrom (s.heap.objs.size+1) scope.names []).lookup y.1).isSome=γ):=λ#v[n,v] hy=>by
  rcases S.par n (j8 hy).1 with q|q
  .exact .inl q
  .exact .inr #v[q,qr _ _ _ (.inl q)]
 refine codeAny_call_function m.depth (KX _ _ lk) U S.co S.n9 U (W.codeRec_of KX hcd) (M _ _ _ _ ?_);refine wpAny_newFunctionEnv_cells S.kind hkind λa4 R G x=>?_;subst R;refine#v[lim.keeps x.toInCall.keep,codeAny_func ?_];obtain⟨t,Y,X⟩:=hbody A b4 s H a Q E (m.deeper _) hsp;have I:b0 (LW CX P w K j a5 N qual scope f cdv A b4 s H E) [] (start N a) H G:=Qx S m.hd i T r x;refine cA (Y [] G (start N a) H _ I X) (λfl z h=>?_) λe z h=>h;have fin:∀{c:St} {d:Hp} {v:V} {u:ab},b0 (LW CX P w K j a5 N qual scope f cdv A b4 s H E) [] c d z->dd v u->Q v d->CE b4 P w H s Q u z:=
  λ{c d v u} J p q=>#v[v,d,J.os,J.i2,J.a5,J.ew,p,q]
 cases fl with
 |ret u=>obtain⟨v,c,d,J,p,q⟩:=h;exact fin J p q
 |next=>obtain⟨c,d,J,q⟩:=h;exact fin (v:=V.U) (u:=Value.none) J U q
 |brk=>obtain⟨_,_,_,q⟩:=h;exact dc q
 |cont=>obtain⟨_,_,_,q⟩:=h;exact dc q
section
variable{X:Cx}{x:Str}{p pos:Pos}{e:Expr}{es:List Expr}{t:TA}{id T:String}{r:bF->Hp->VK->Prop}
def ε(r:bF->Hp->VK->Prop)(t:TA):TE:=λc H Q=>t c H λb a=>r b a Q
set_option r "Fb builtin id builtin1;Qy type T type1" in def ϑ0(j:xH X (.ϑ1 ϑ2) r)(m:Gl X x)(o:X.mg x=O)(u:ee x=Z (.ϑ1 ϑ2))(i:PA X (e::es) t)(q:x≠"__name__" := by decide)(b:(x==("__debug__" : Str))=δ:=by decide)
  (l:aF (e::es) X.a4=(δ,eval e X.a4)::aF es X.a4:=by rfl) (hpl:(bO pos (aF es X.a4)).any (·.1)=δ:=by rfl):PE X (.Call (.Name x p) (e::es) [] pos) (ε r t):=by
 intro a s c H Q I h;refine d4 (Cn I m o u ?_ q b);exact callWith_ϑ3 (e3 (i pos a s c H _ I h) λA z #v[B,d,f,y,w]=>j a z c d B A Q f y w) l hpl
end
end L2
namespace HT
open PySem PyProof.Rows
section
variable{prog:aL}{w:aE}{A:aR}{E:ab->af->Prop}{s:af}
def V2{vs ws:List ab}(q:fZ s.heap t vs.toArray)(hb:fZ s.heap b ws.toArray)(o:vs≠[])
  (h1:ws=[]->Q (.ref t) s) (h2:ws≠[]->Q (.ref s.heap.objs.size) { s with heap:=s.heap.push { cls:=.type "tuple", data:=.seq (vs++ws).toArray } })
  (j:vs.length+ws.length<=aJ):ao (model prog w) A (cK .Add (.ref t) (.ref b)) Q E s:=by
 obtain⟨⟨cls,l,data,sl⟩,i,m,n,hd⟩:=id q;obtain⟨⟨cls2,c,data2,h⟩,a,d,p,f⟩:=id hb;simp only at m hd d f;subst m hd d f;have e:vs.toArray++ws.toArray=(vs++ws).toArray:=by simp
 by_cases hw:ws=[]
 .exact concat_meets #v[_,i,U] #v[_,a,U] qu rA qv p8 (pL _ _)
   (tuple_addW1 t b vs.toArray ws.toArray n p l c sl h (by simpa using o) (by simp[hw])) #v[i,a,h1 hw]
 .refine concat_meets #v[_,i,U] #v[_,a,U] qu rA qv p8 (pL _ _)
   (tuple_addW2 t b vs.toArray ws.toArray n p l c sl h (by simpa using o) (by simpa using hw) (by rw[bp,bp];exact j)) #v[i,a,?_]
  rw[e];exact h2 hw
def e7(n d:Nat):Option Int->Nat
 |none=>d
 |some v=>if v<0 then (v+(n:Int)).toNat else min v.toNat n
def LY(n d:Nat):e7 n d O=d:=rfl
def HK(n d k:Nat):e7 n d (Z (k:Int))=min k n:=by show (if (k:Int)<0 then ((k:Int)+(n:Int)).toNat else min (k:Int).toNat n)=min k n;rw[ak (by omega),gr]
def Z3(n d:Nat)(hd:d<=n)(o:Option Int):e7 n d o<=n:=by
 cases o with
 |none=>exact hd
 |some v=>
  show (if v<0 then (v+(n:Int)).toNat else min v.toNat n)<=n;by_cases a:v<0
  .rw[aj a];omega
  .rw[ak a];exact Nat.min_le_right _ _
def OW(v:Int)(n d:Nat):(if v<0 then max (v+(n:Int)) 0 else min v (n:Int))=((e7 n d (Z v):Nat):Int):=by
 show (if v<0 then max (v+(n:Int)) 0 else min v (n:Int))=(((if v<0 then (v+(n:Int)).toNat else min v.toNat n):Nat):Int);by_cases a:v<0
 .simp only[aj a];omega
 .simp only[ak a];omega
def NP(lo a:Option Int)(n:Nat):k9 lo a 1 (n:Int)=(((e7 n 0 lo:Nat):Int),((e7 n n a:Nat):Int)):=by
 have b:¬((1:Int)<0):=by omega
 unfold k9;simp only[b,if_false];refine Prod.ext ?_ ?_
 .cases lo with
  |none=>rfl
  |some v=>exact OW v n 0
 .cases a with
  |none=>rfl
  |some v=>exact OW v n n
def NQ(i j:Nat):jF (i:Int) (j:Int) 1=j - i:=by
 unfold jF;have a:(1:Int) > 0:=by omega
 simp only[a,if_true,Int.ediv_one];split<;>omega
def Ia(p:eK v o)(h:Q o s):ao (model prog w) A (tR v) Q E s:=by
 cases p with
 |none=>exact qW h
 |int i t=>exact slicePart_int h
def BY{d:Addr}{b c:ab}{lo a:Option Int}{n:Nat}{Q:Int×Int×Nat->af->Prop}(e:s.heap.IsSliceOf d b c .none)(pl:eK b lo)(f:eK c a)
  (h:Q (((e7 n 0 lo:Nat):Int),1,e7 n n a - e7 n 0 lo) s):ao (model prog w) A (oF (.ref d) (pure (n:Int))) Q E s:=by
 obtain⟨os,hos,hcs,hds⟩:=id e;unfold oF uf;refine ai (ai (nE hos hds (x:=b) U (ai (nE hos hds (x:=c) U (ai (nE hos hds (x:=.none) U (ar ?_)))))));refine ai (qW ?_);show ao _ _ (if ((1:Int)==0)=γ then _ else _) _ _ s;rw[ak (by decide)];refine ai (Ia pl (ai (Ia f (ai (ar ?_)))));show ao _ _ (match k9 lo a 1 (n:Int)with|(lo,a)=>pure (lo,(1:Int),jF lo a 1)) _ _ s;rw[NP lo a n];show ao _ _ (pure (((e7 n 0 lo:Nat):Int),(1:Int),jF ((e7 n 0 lo:Nat):Int) ((e7 n n a:Nat):Int) 1)) _ _ s;rw[NQ];exact ar h
def Si(a:Array ab)(i k:Nat):((aC k).filterMap λ(m:Nat)=>a[((i:Int)+(m:Int) * 1).toNat]?).toArray=((a.toList.drop i).take k).toArray:=by
 have e:(λ(m:Nat)=>a[((i:Int)+(m:Int) * 1).toNat]?)=λm=>a[i+m]?:=by
  funext m
  have:((i:Int)+(m:Int) * 1).toNat=i+m:=by omega
  rw[this]
 rw[e];have:=pick_run a i k;rw[List.filterMap_map]at this;have b:((λx=>a[x]?)∘λx=>i+x)=λm=>a[i+m]?:=rfl;rw[b]at this;rw[this]
def Fc{t sl:Addr}{items:Array ab}{b c:ab}{lo hi:Option Int}{Q:ab->af->Prop}(a:fZ s.heap t items)(hs:s.heap.IsSliceOf sl b c .none)(pl:eK b lo)(pu:eK c hi)
  (hw:¬(e7 items.size 0 lo=0/\e7 items.size items.size hi=items.size))
  (h:Q (.ref s.heap.objs.size) { s with heap:=s.heap.push { cls:=.type "tuple", data:=.seq ((items.toList.drop (e7 items.size 0 lo)).take (e7 items.size items.size hi - e7 items.size 0 lo)).toArray } })
  (d:items.size<=aJ):ao (model prog w) A (getItem (.ref t) (.ref sl)) Q E s:=by
 have htake:sizeOk (.seq ((items.toList.drop (e7 items.size 0 lo)).take (e7 items.size items.size hi - e7 items.size 0 lo)).toArray):=by show ((items.toList.drop (e7 items.size 0 lo)).take (e7 items.size items.size hi - e7 items.size 0 lo)).toArray.size<=aJ;rw[bp,cv,c8,bZ];omega
 have e:e7 items.size items.size hi<=items.size:=Z3 _ _ (aI _) hi;obtain⟨os,hos,hcs,hds⟩:=id hs;have hTs:s.TypeIs (.ref sl) "slice" := #v[os,hos,hcs];unfold getItem
 try with_reducible refine cJ ?_
 first|refine ai (ar ?_)|skip
 refine ai (p9 a.typeIs (by decide) ?_);refine ai (lu (name:=kg "__getitem__") a.typeIs gb
  (fM gb a.typeIs pj ?_ (pM _ _)))
 show ao _ _ (oG (.ref t)>>=_) _ _ s;refine ai (rB a ?_);refine ai (iB hTs ?_);rw[aj (by decide)];refine ai (BY hs pl pu ?_);have hno:¬((((e7 items.size 0 lo:Nat):Int)==0&&(1:Int)==1&&(e7 items.size items.size hi - e7 items.size 0 lo)==items.size)=γ):=by intro q;rw[aW,aW]at q;have q1:((e7 items.size 0 lo:Nat):Int)=0:=fY q.1.1;have q2:e7 items.size items.size hi - e7 items.size 0 lo=items.size:=fY q.2;exact hw #v[by omega,by omega]
 show ao _ _ (if (((e7 items.size 0 lo:Nat):Int)==0&&(1:Int)==1&&(e7 items.size items.size hi - e7 items.size 0 lo)==items.size)=γ then _ else _) _ _ s;rw[ak hno,Si]
 first
  |exact ai (m:=jH _) (d5 (ar #v[_,U,ar h]) htake)
  |exact ai (m:=jH _) (d5 (ai (ar (ar #v[_,U,ar h]))) htake)
  |exact ai (ai (m:=jH _) (d5 (ar (ar #v[_,U,ar h])) htake))
  |exact ai (ai (m:=jH _) (d5 (ar #v[_,U,ar h]) htake))
end
end HT
namespace L2
open PySem PySem.Spec PyProof.Rows
abbrev TO:=St->Hp->(Option Int->Hp->Prop)->Prop
def PO(X:Cx)(e:Option Expr)(t:TO):Prop:=
 ∀(a:cO) (s:af) (b:St) (H:Hp) (Q:Option Int->Hp->Prop),b0 X a b H s->t b H Q->
  ao (model X.prog X.w) X.A (evalPart e X.a4) (λu d=>∃o c,b0 X a b c d/\eK u o/\Q o c) X.xe s
def V3:TO:=λt H Q=>Q O H
def adF(t:TE):TO:=λb H Q=>t b H λx a=>∃i,x=.int i/\Q (Z i) a
section
variable{X:Cx}{e:Expr}{te:TE}{lo hi:Option Expr}{tl th:TO}{pos p2:Pos}
def OX:PO X O V3:=by intro a s b H Q I h;rw[rD];exact ar #v[O,H,I,.none,h]
def OY(h:PE X e te):PO X (Z e) (adF te):=by intro a s l H Q I d;rw[evalPart_some];refine e3 (h a s l H _ I d) λu m zz=>?_;obtain⟨x,b,c,j,f⟩:=zz;obtain⟨i,rfl,q⟩:=f;obtain⟨t,rfl⟩:=j;exact#v[Z i,b,c,.int i t,q]
def SlR(X:Cx)(r:V->Option Int->Option Int->Hp->VK->Prop):Prop:=
 ∀(a:cO) (s:af) (f:St) (H:Hp) (x:V) (v c d:ab) (lo hi:Option Int) (b:Addr) (Q:VK),b0 X a f H s->dd x v->s.heap.IsSliceOf b c d .none->eK c lo->eK d hi->r x lo hi H Q->
  ∃T id,typeLookup (.type T) "__getitem__" = pure (Z (.builtin id))/\s.TypeIs v T/\ao (model X.prog X.w) X.A (getItem v (.ref b)) (EP X a f Q) X.xe s
def tSl(r:V->Option Int->Option Int->Hp->VK->Prop)(te:TE)(tl th:TO):TE:=λa H Q=>te a H λx b=>tl a b λl c=>th a c λu d=>r x l u d Q
def Fd(hr:SlR X r)(p:PE X e te)(t:PO X lo tl)(z:PO X hi th):PE X (.Subscript e (.Slice lo hi O p2) pos) (tSl r te tl th):=by intro pins s σ H Q I h;refine nJ (e3 (p pins s σ H _ I h) λv B zz=>?_);obtain⟨x,H1,i,r1,q1⟩:=zz;refine wpAny_Slice (e3 (t pins B σ H1 _ i q1) λc s2 #v[l,H2,j,pl,q2]=>e3 (z pins s2 σ H2 _ j q2) λd a zz=>?_);obtain⟨u,f,m,pu,q3⟩:=zz;rw[rD];refine ar ?_;have o:b0 X pins σ f { a with heap:=a.heap.push { cls:=.type "slice", data:=.fields #[c,d,.none] } }:=m.fh (t':=a.toks) λb ob q=>aT _ q;obtain⟨T,id,hT,y,hg⟩:=hr pins { a with heap:=a.heap.push { cls:=.type "slice", data:=.fields #[c,d,.none] } } σ f x v c d l u a.heap.objs.size Q o r1 (u9 ..) pl pu q3;show ao (model X.prog X.w) X.A (subscriptTail e (.Slice lo hi O p2) v (.ref a.heap.objs.size)) (EP X pins σ Q) X.xe { a with heap:=a.heap.push { cls:=.type "slice", data:=.fields #[c,d,.none] } };exact tail_any (ops:=[.ref a.heap.objs.size,v]) y hT hg (by with_unfolding_all rfl)
def KC(a:bF)(lo hi:Option Int):bF:=(a.drop (HT.e7 a.length 0 lo)).take (HT.e7 a.length a.length hi - HT.e7 a.length 0 lo)
def G1(a:bF)(lo hi:Option Int):(KC a lo hi).length<=a.length:=by unfold KC;rw[cv,c8];omega
def Z4(K:aw):V->Option Int->Option Int->Hp->VK->Prop:=λx lo hi H Q=>∃a b,x=.ref a/\e? K H a b/\
 ¬(HT.e7 b.length 0 lo=0/\HT.e7 b.length b.length hi=b.length)/\∀p,H p=O->Q (.ref p) (ef H p (.a7 (KC b lo hi)))
def Sj:SlR X (Z4 X.K):=by
 intro l s E H x v B C lo hi z Q I w m pl u h;obtain⟨a,d,rfl,t,p,q⟩:=h;cases w;obtain⟨f,r,i,j⟩:=I.tuple t;have c:f.toArray.size=d.length:=by rw[bp];exact r.length.symm
 refine#v["tuple", _,gb.lookup,i.typeIs,?_];refine HT.Fc i m pl u (by rw[c];exact p) ?_ (by rw[c];exact j);rw[c];refine#v[.ref s.heap.objs.size,_,I.laid (t':=s.toks) (o:=.a7 (KC d lo hi)) (λb y q=>aT _ q) (aI _) ?_,U,q _ (I.ew.fresh (aI _))];exact#v[bz (G1 d lo hi) j,_,(r.drop (HT.e7 d.length 0 lo)).take (HT.e7 d.length d.length hi - HT.e7 d.length 0 lo),nQ _ _,λo e=>by rw[bA _ U]at e;cases e;rfl]
inductive Sk(K:aw) (x:V) (y:V) (H:Hp) (Q:VK):Prop
 |i (a b xs ys) (h0:x=.ref a) (h1:y=.ref b) (h2:e? K H a xs) (h3:e? K H b ys) (h4:xs≠[]) (h5:xs.length+ys.length<=aJ) (h6:(ys=[]->Q (.ref a) H)) (h7:(ys≠[]->∀p,H p=O->Q (.ref p) (ef H p (.a7 (xs++ys))))):Sk K x y H Q
def adG(K:aw):R2:=λx y H Q=>Sk K x y H Q
def c6.yr(r:c6 b a):a=[] ↔ b=[]:=by
 cases r with
 |nil=>simp
 |cons _ _=>simp
def V4:gi X (cK .Add) (adG X.K):=by intro j s N H x y v u Q I C E h;obtain⟨a,b,F,G,rfl,rfl,l,m,p,f,A,B⟩:=h;cases C;cases E;obtain⟨r,d,t,_⟩:=I.tuple l;obtain⟨i,c,p2,_⟩:=I.tuple m;refine HT.V2 t p2 (λz=>p (d.yr.1 z)) (λz=>#v[.ref a,H,I,U,A (c.yr.1 z)]) (λz=>?_) (by rw[<-d.length,<- c.length];exact f);refine#v[.ref s.heap.objs.size,_,I.laid (t':=s.toks) (o:=.a7 (F++G)) (λb J q=>aT _ q) (aI _) ?_,U,B (λw=>z (c.yr.2 w)) _ (I.ew.fresh (aI _))];exact#v[by rw[aA];exact f,_,d.append c,nQ _ _,λo e=>by rw[bA _ U]at e;cases e;rfl]
end
def ixN(n:Nat)(i:Int):Option Nat:=if 0<=i then (if i<n then Z i.toNat else O)else if -(n:Int)<=i then Z (i+n).toNat else O
def z?{b:Type}(a:List b)(i:Int):Option b:=(ixN a.length i).bind λj=>a[j]?
def V5(h:ixN n i=Z j):seqIndex? i n=Z j/\j<n/\-(n:Int)<=i/\i<n:=by
 unfold ixN at h;by_cases b:0<=i
 .rw[aj b]at h;by_cases a:i<n
  .rw[aj a]at h;have e:i.toNat=j:=cW h;exact#v[by rw[seqIndex_of b a,e],by omega,by omega,a]
  .rw[ak a]at h;cases h
 .rw[ak b]at h;by_cases a:-(n:Int)<=i
  .rw[aj a]at h;have e:(i+n).toNat=j:=cW h;exact#v[by rw[seqIndex_neg (by omega) a,e],by omega,a,by omega]
  .rw[ak a]at h;cases h
def KD{b:Type}{a:List b}{i:Int}{v:b}(h:z? a i=Z v):∃j,seqIndex? i a.length=Z j/\a[j]?=Z v/\j<a.length/\-(a.length:Int)<=i/\i<a.length:=by
 unfold z? at h;cases e:ixN a.length i with
 |none=>rw[e]at h;cases h
 |some j=>rw[e]at h;obtain⟨c,d,f,l⟩:=V5 e;exact#v[j,c,h,d,f,l]
def yy{a:Type}{xs:List a}{j:Nat}{v:a}(h:xs[j]?=Z v):z? xs (j:Int)=Z v:=by
 have b:j<xs.length:=(bY.1 h).1;have e:ixN xs.length (j:Int)=Z j:=by unfold ixN;rw[aj (by omega),aj (by omega)];simp
 unfold z?;rw[e];exact h
def OZ(b:Expr):Prop:=∀o i,subscripted b δ o i=operate [o,i] (getItem o i)
def X1(X:Cx)(r:R2):Prop:=
 ∀(value slice:Expr) (a:cO) (s:af) (b:St) (H:Hp) (x y:V) (v u:ab) (Q:VK),b0 X a b H s->dd x v->dd y u->r x y H Q->
  subscripted slice δ v u=operate [v,u] (getItem v u)->ao (model X.prog X.w) X.A (subscriptTail value slice v u) (EP X a b Q) X.xe s
def MtR(X:Cx)(id:String)(r:V->bF->Hp->VK->Prop):Prop:=
 ∀(a:cO) (s:af) (d:St) (H:Hp) (x:V) (c:bF) (v:ab) (b:List ab) (Q:VK),b0 X a d H s->dd x v->c6 c b->r x c H Q->
  ao (model X.prog X.w) X.A (call (.builtin id) (v::b)) (EP X a d Q) X.xe s
section
variable{X:Cx}{a b:Expr}{ta tb:TE}{pos:Pos}
def X1.or(h:X1 X r)(j:X1 X l):X1 X (λx y H Q=>r x y H Q\/l x y H Q):=by
 intro value slice c s i H x y v u Q I e f q d;rcases q with q|q
 .exact h value slice c s i H x y v u Q I e f q d
 .exact j value slice c s i H x y v u Q I e f q d
def adH(j:X1 X r)(f:PE X a ta)(i:PE X b tb)(l:OZ b):PE X (.Subscript a b pos) (tOp r ta tb):=by intro c s t H Q I h;exact nJ (ZC f i I h λv u p x y d e m o q=>j a b c p t d x y v u Q e m o q (l _ _))
inductive Yp(K:aw) (x:V) (y:V) (H:Hp) (Q:VK):Prop
 |i (p xs i v) (h0:x=.ref p) (h1:y=.int i) (h2:e8 K H p xs) (h3:z? xs i=Z v) (h4:Q v H):Yp K x y H Q
def rIxL(K:aw):R2:=λx y H Q=>Yp K x y H Q
inductive Yq(K:aw) (x:V) (y:V) (H:Hp) (Q:VK):Prop
 |i (p xs i v) (h0:x=.ref p) (h1:y=.int i) (h2:e? K H p xs) (h3:z? xs i=Z v) (h4:Q v H):Yq K x y H Q
def rIxT(K:aw):R2:=λx y H Q=>Yq K x y H Q
inductive Yr(x:V) (y:V) (H:Hp) (Q:VK):Prop
 |i (z i c) (h0:x=.str z) (h1:y=.int i) (h2:z.length<=aJ) (h3:z? z.cps.toList i=Z c) (h4:Q (.str #v[#[c]]) H):Yr x y H Q
def rIxS:R2:=λx y H Q=>Yr x y H Q
def V6:X1 X (rIxL X.K):=by
 intro value slice c s B H x y v u Q I N P h A;obtain⟨p,Y,i,z,rfl,rfl,M,G,q⟩:=h;cases N;obtain⟨t,rfl⟩:=P;obtain⟨f,r,pl,W⟩:=I.list M;obtain⟨j,d,C,S,E,F⟩:=KD G;obtain⟨w,m,l⟩:=r.get C;have J:=r.length;have T:=HX;have fin:EP X c B Q w s:=#v[z,H,I,l,q];by_cases o:0<=i
 .have e:i.toNat=j:=by rw[seqIndex_of o F]at d;exact cW d
  exact item_listR pl.isList o (by omega) (by rw[e];simpa using m) fin A
 .have e:(i+(f.toArray.size:Int)).toNat=j:=by rw[seqIndex_neg (by omega) E]at d;rw[bp,<- J];exact cW d
  exact oV (x:=w) pl.isList.typeIs qa.lookup
   (wpAny_getItem_list_neg (Q:=λr R=>r=w/\EP X c B Q r R) pl.isList (by omega) (by rw[bp]<;>omega) (by omega) (by rw[e];simpa using m) #v[U,fin]) A
def Z5:X1 X (rIxT X.K):=by
 intro value slice c s e H x y v u Q I F G h C;obtain⟨p,T,i,z,rfl,rfl,B,o,q⟩:=h;cases F;obtain⟨t,rfl⟩:=G;obtain⟨E,r,pl,S⟩:=I.tuple B;obtain⟨j,l,m,M,N,P⟩:=KD o;obtain⟨w,f,d⟩:=r.get m;have A:=r.length;have R:=HX;have fin:EP X c e Q w s:=#v[z,H,I,d,q];exact oV (x:=w) pl.typeIs gb.lookup
  (getItem_tuple (j:=j) (Q:=λr J=>r=w/\EP X c e Q r J) pl (by omega) (by omega) (by rw[bp,<- A];exact l) (by simpa using f) #v[U,fin]) C
def Z6:X1 X rIxS:=by
 intro value slice e s M H x y v u Q I B C h A;obtain⟨z,i,c,rfl,rfl,G,r,q⟩:=h;obtain⟨t,rfl⟩:=B;obtain⟨J,rfl⟩:=C;obtain⟨j,d,m,E,o,p⟩:=KD r;have w:z.cps.toList.length=z.length:=by simp[Str.length]
 rw[w]at d o p;have F:=HX;exact tail_any (jq s z t) slot_str_getitem.lookup (getItem_str (c:=c) (by
  have f:decide (i < -(2 ^ 63:Int))=δ:=aP (by omega);have l:decide (i >= 2 ^ 63)=δ:=aP (by omega);rw[f,l,Bool.or_false]) (by rw[d];simpa using m) #v[.str #v[#[c]],H,I.ri _,#v[_,U],q]) A
def rIx(K:aw):R2:=λx y H Q=>rIxL K x y H Q\/rIxT K x y H Q\/rIxS x y H Q
def Z7:X1 X (rIx X.K):=V6.or (Z5.or Z6)
def Ys(i:Int)(n d:Nat):max 0 (min (if i<0 then i+(n:Int)else i) n)=((HT.e7 n d (Z i):Nat):Int):=by
 have e:∀j:Int,max 0 (min j n)=((min j.toNat n:Nat):Int):=λj=>by
  cases j with
  |ofNat a=>
   show max 0 (min (a:Int) n)=((min a n:Nat):Int);rcases Nat.le_total a n with h|h
   .rw[gA h,qH (rN.2 h)];exact qw (jQ a)
   .rw[Nat.min_eq_right h,Int.min_eq_right (rN.2 h)];exact qw (jQ n)
  |negSucc a=>rw[qH (Int.le_trans (rO (pq a)) (jQ n)),Int.max_eq_left (rO (pq a))];show (0:Int)=((min 0 n:Nat):Int);rw[Nat.zero_min];rfl
 rw[e];simp only[HT.e7];by_cases h:i<0
 .simp only[h,if_true];rw[gA (Int.toNat_le.2 (by omega))]
 .simp only[h,if_false]
def KE(lo c:Option Int)(n:Nat):(sliceBounds lo c O n).1=((HT.e7 n 0 lo:Nat):Int)/\(sliceBounds lo c O n).2.1=((HT.e7 n n c:Nat):Int)/\(sliceBounds lo c O n).2.2=1:=by
 refine#v[?_,?_,U]
 .cases lo with
  |none=>simp[sliceBounds,HT.e7]
  |some i=>exact Ys i n _
 .cases c with
  |none=>simp[sliceBounds,HT.e7]
  |some i=>exact Ys i n _
def Jz(c:List ab)(lo d:Option Int):slicePick c.toArray lo d O=((c.drop (HT.e7 c.length 0 lo)).take (HT.e7 c.length c.length d - HT.e7 c.length 0 lo)).toArray:=by obtain⟨e,f,h⟩:=KE lo d c.toArray.size;unfold slicePick;rw[e,f,h];simp only[sliceRange_one,pick_run,bp]<;>rfl
def Qz(K:aw):V->Option Int->Option Int->Hp->VK->Prop:=λx lo d H Q=>∃a c,x=.ref a/\e8 K H a c/\∀p,H p=O->Q (.ref p) (ef H p (.a3 (KC c lo d)))
def V7:SlR X (Qz X.K):=by intro i s C H x v A B lo e y Q I u j pl t h;obtain⟨a,c,rfl,l,q⟩:=h;cases u;obtain⟨p,r,f,m⟩:=I.list l;have d:=r.length;refine#v["list", _,qa.lookup,f.isList.typeIs,?_];refine wpAny_getItem_list_slice f.isList j pl t .none (by simp) ?_ (by rw[bp]<;>omega);rw[Jz,<- d];refine#v[.ref s.heap.objs.size,_,I.laid (t':=s.toks) (o:=.a3 (KC c lo e)) (λb w q=>aT _ q) (aI _) ?_,U,q _ (I.ew.fresh (aI _))];exact#v[bz (G1 c lo e) m,_,0,(r.drop (HT.e7 c.length 0 lo)).take (HT.e7 c.length c.length e - HT.e7 c.length 0 lo),bA _ U]
def El:V->Bool
 |.U=>γ
 |.X _=>γ
 |.int _=>γ
 |.str _=>γ
 |_=>δ
def eqV:V->V->Bool
 |.U,.U=>γ
 |.X a,.X b=>a==b
 |.X a,.int b=>(if a then 1 else 0)==b
 |.int a,.X b=>a==(if b then 1 else 0)
 |.int a,.int b=>a==b
 |.str a,.str b=>a==b
 |_,_=>δ
def Ib(f:dd y u)(c:dd x v)(h:El y=γ)(e:El x=γ):jr A s u v (eqV y x):=by
 cases y with
 |U=>
  cases f;cases x with
  |U=>cases c;exact mJ _
  |X b=>cases c;exact uK b
  |int b=>obtain⟨t,rfl⟩:=c;exact px b t
  |str b=>obtain⟨t,rfl⟩:=c;exact pz b t
  |_=>exact aq (show δ=γ from e) bH
 |X a=>
  cases f;cases x with
  |U=>cases c;exact uL a
  |X b=>cases c;exact uM a b
  |int b=>obtain⟨t,rfl⟩:=c;exact uV a b t
  |str b=>obtain⟨t,rfl⟩:=c;exact uW a b t
  |_=>exact aq (show δ=γ from e) bH
 |int a=>
  obtain⟨d,rfl⟩:=f;cases x with
  |U=>cases c;exact pA a d
  |X b=>cases c;exact uX a d b
  |int b=>obtain⟨t,rfl⟩:=c;exact vb a d b t
  |str b=>obtain⟨t,rfl⟩:=c;exact pI a d b t
  |_=>exact aq (show δ=γ from e) bH
 |str a=>
  obtain⟨d,rfl⟩:=f;cases x with
  |U=>cases c;exact pB a d
  |X b=>cases c;exact uY a d b
  |int b=>obtain⟨t,rfl⟩:=c;exact pJ a d b t
  |str b=>obtain⟨t,rfl⟩:=c;exact l3 a d b t
  |_=>exact aq (show δ=γ from e) bH
 |_=>exact aq (show δ=γ from h) bH
def J?(x:V)(u:ab):Bool:=match u with
 |.none=>eqV .U x
 |.bool b=>eqV (.X b) x
 |.int i _=>eqV (.int i) x
 |.str z _=>eqV (.str z) x
 |_=>δ
def Sm(r:dd y u)(f:El y=γ):J? x u=eqV y x:=by
 cases y with
 |U=>cases r;rfl
 |X b=>cases r;rfl
 |int i=>obtain⟨t,rfl⟩:=r;rfl
 |str z=>obtain⟨t,rfl⟩:=r;rfl
 |_=>exact aq (show δ=γ from f) bH
theorem Fe:∀{c:bF} {d:List ab},c6 c d->c.all El=γ->d.any (J? x)=c.any λy=>eqV y x
 |_,_,.nil,_=>rfl
 |y::c,u::d,.cons r t,f=>by rw[gG,aW]at f;rw[gH,gH,Sm r f.1,Fe t f.2]
theorem DB(i:dd x v)(h:El x=γ):∀{e:bF} {d:List ab},c6 e d->e.all El=γ->∀u∈d,jr A s u v (J? x u)
 |_,_,.nil,_=>λu c=>by cases c
 |y::e,u::d,.cons r t,f=>λj c=>by
  rw[gG,aW]at f;rcases aM.1 c with rfl|c
  .rw[Sm r f.1];exact Ib r i f.1 h
  .exact DB i h t f.2 j c
def inV(x:V)(c:bF):Bool:=c.any λy=>eqV y x
inductive IrIn(K:aw) (neg:Bool) (x:V) (y:V) (H:Hp) (Q:VK):Prop
 |i (p xs) (h0:y=.ref p) (h1:(e8 K H p xs\/e? K H p xs)) (h2:El x=γ) (h3:xs.all El=γ) (h4:Q (.X (if neg then !inV x xs else inV x xs)) H):IrIn K neg x y H Q
def rIn(K:aw)(neg:Bool):R2:=λx y H Q=>IrIn K neg x y H Q
def QA:gi X (bD .In) (rIn X.K δ):=by
 intro i s t H x y v u Q I j m h;obtain⟨p,o,rfl,d,f,fs,q⟩:=h;cases m;rcases d with d|d
 .obtain⟨c,r,pl,l⟩:=I.list d;refine SeqAt.in_listAt (J? x) pl.isList (λw e=>DB j f r fs w (by simpa using e)) #v[.X _,H,I,U,?_];rw[show c.toArray.any (J? x)=c.any (J? x) by simp,Fe r fs];exact q
 .obtain⟨c,r,pl,l⟩:=I.tuple d;refine qx (J? x) pl (λw e=>DB j f r fs w (by simpa using e)) #v[.X _,H,I,U,?_];rw[show c.toArray.any (J? x)=c.any (J? x) by simp,Fe r fs];exact q
def KF:gi X (bD .NotIn) (rIn X.K γ):=by
 intro i s t H x y v u Q I j m h;obtain⟨p,o,rfl,d,f,fs,q⟩:=h;cases m;rcases d with d|d
 .obtain⟨c,r,pl,l⟩:=I.list d;refine SeqAt.notIn_listAt (J? x) pl.isList (λw e=>DB j f r fs w (by simpa using e)) #v[.X _,H,I,U,?_];rw[show c.toArray.any (J? x)=c.any (J? x) by simp,Fe r fs];exact q
 .obtain⟨c,r,pl,l⟩:=I.tuple d;refine SeqAt.notIn_tupleAt (J? x) pl (λw e=>DB j f r fs w (by simpa using e)) #v[.X _,H,I,U,?_];rw[show c.toArray.any (J? x)=c.any (J? x) by simp,Fe r fs];exact q
def KG:xH X (.builtin "len") (λl H Q=>∃p d,l=[.ref p]/\(e8 X.K H p d\/e? X.K H p d)/\Q (.int d.length) H):=by
 intro j s x H l w Q I r h;obtain⟨p,d,rfl,e,q⟩:=h;obtain⟨u,rfl,o⟩:=j? r;cases o;have t:=HX;rcases e with e|e
 .obtain⟨f,i,pl,m⟩:=I.list e;have c:=i.length;exact Calls.call_len_list pl.isList (by simp only[bp]<;>omega) #v[.int d.length,H,I.ri _,#v[s.toks+1,by rw[bp,c]],q]
 .obtain⟨f,i,pl,m⟩:=I.tuple e;have c:=i.length;exact len_tuple pl (by simp only[bp]<;>omega) #v[.int d.length,H,I.ri _,#v[s.toks+1,by rw[bp,c]],q]
def KH:xH X (.builtin "len") (λd H Q=>∃z,d=[.str z]/\z.length<=aJ/\Q (.int z.length) H):=by intro c s j H d i Q I r h;obtain⟨z,rfl,f,q⟩:=h;obtain⟨u,rfl,t,rfl⟩:=j? r;have e:=HX;exact len_str (by omega) #v[.int z.length,H,I.ri _,#v[_,U],q]
def KI:xH X (.type "list") (λxs H Q=>∃p i,xs=[.ref p]/\(e8 X.K H p i\/e? X.K H p i)/\∀l,H l=O->Q (.ref l) (ef H l (.a3 i))):=by
 intro pins s σ H xs us Q I r h;obtain⟨p,i,rfl,m,q⟩:=h;obtain⟨u,rfl,A⟩:=j? r;cases A;have fin:∀(c:List ab),c6 i c->i.length<=aJ->∀(h':Heap) (d:Nat),(∀b z,s.heap.get? b=Z z->h'.get? b=Z z)->
   h'.get? s.heap.objs.size=Z { cls:=.type "list", dict:=O,data:=.seq c.toArray d,slots:=#[] }->EP X pins σ Q (.ref s.heap.objs.size) { s with heap:=h' }:=λc f t h' d kp e=>
  #v[.ref s.heap.objs.size,_,I.laid (t':=s.toks) kp (aI _) (show en X.prog X.w _ h' _ (.a3 i) from#v[t,c,d,f,e]),U,q _ (I.ew.fresh (aI _))]
 rcases m with m|m
 .obtain⟨c,f,pl,t⟩:=I.list m;have j:=f.length;obtain⟨o,y,x,n,hd⟩:=pl.isList;exact rE p (.inl U) y x hd (λh' d kp e=>fin c f t h' d kp e) (by simp only[bp]<;>omega)
 .obtain⟨c,f,pl,t⟩:=I.tuple m;have j:=f.length;obtain⟨o,y,x,n,hd⟩:=pl;exact rE p (.inr U) y x hd (λh' d kp e=>fin c f t h' d kp e) (by simp only[bp]<;>omega)
def JA:xH X (.type "tuple") (λxs H Q=>∃p d,xs=[.ref p]/\((e8 X.K H p d/\∀l,H l=O->Q (.ref l) (ef H l (.a7 d)))\/(e? X.K H p d/\Q (.ref p) H))):=by
 intro pins s σ H xs us Q I r h;obtain⟨p,d,rfl,h⟩:=h;obtain⟨u,rfl,y⟩:=j? r;cases y;rcases h with ⟨f,q⟩|⟨f,q⟩
 .obtain⟨c,i,pl,t⟩:=I.list f;have m:=i.length;refine call_tuple_list pl.isList (λh' kp=>?_) (by simp only[bp]<;>omega);have j:b0 X pins σ H { s with heap:=h' }:=I.fh (t':=s.toks) kp;have x:b0 X pins σ (ef H h'.objs.size (.a7 d)) { s with heap:=h'.push { cls:=.type "tuple", data:=.seq c.toArray } }:=
   j.laid (t':=s.toks) (λb o e=>aT _ e) (aI _) (show en X.prog X.w _ _ _ (.a7 d) from#v[t,c,i,nQ _ _,λo e=>by rw[bA _ U]at e;cases e;rfl])
  exact#v[.ref h'.objs.size,_,x,U,q _ (j.ew.fresh (aI _))]
 .obtain⟨c,i,pl,t⟩:=I.tuple f;exact call_tuple_same pl #v[.ref p,H,I,U,q]
def tyV(K:aw)(T:String)(x:V)(H:Hp):Prop:=match x with
 |.str _=>T="str"
 |.int _=>T="int"
 |.ref p=>(T="list" /\ ∃c,e8 K H p c)\/(T="tuple" /\ ∃o,K.lookup p=Z o/\o.cls=.type "tuple" /\ o.dict=O)\/
   (T="dict" /\ ((∃kvs,H p=Z (.dK kvs))\/∃kvs,H p=Z (.dT kvs)))\/(T="set" /\ ∃S n,H p=Z (.set S n))
 |_=>False
def Z8(I:b0 X l y H s)(r:dd x v)(ty:tyV X.K T x H):
  s.TypeIs v T/\∀a,v=.ref a->∃j,s.heap.get? a=Z j/\j.dict=O:=by
 cases x with
 |str z=>obtain⟨t,rfl⟩:=r;cases (show T="str" from ty);exact#v[jq s z t,λb e=>nomatch e]
 |int i=>obtain⟨t,rfl⟩:=r;cases (show T="int" from ty);exact#v[typeIs_int s i t,λb e=>nomatch e]
 |ref p=>
  cases r;rcases ty with ⟨rfl,w,q⟩|⟨rfl,o,d,m,hd⟩|⟨rfl,d⟩|⟨rfl,S,n,d⟩
  .obtain⟨u,_,pl,_⟩:=I.list q;refine#v[pl.isList.typeIs,λa e=>?_];cases e;obtain⟨o,n,e,c,hd,_⟩:=pl;exact#v[o,e,hd]
  .refine#v[#v[o,I.ma p o d,m],λa e=>?_];cases e;exact#v[o,I.ma _ o d,hd]
  .have z:∃o,s.heap.get? p=Z o/\o.ExactDict:=by
    rcases d with ⟨kvs,d⟩|⟨kvs,d⟩
    .obtain⟨_,_,_,_,o,_,_,e,f,_⟩:=I.ew p _ d;exact#v[o,e,f]
    .obtain⟨_,_,_,_,o,_,_,e,f,_⟩:=I.ew p _ d;exact#v[o,e,f]
   obtain⟨o,e,f⟩:=z;refine#v[#v[o,e,f.1],λa h=>?_];cases h;exact#v[o,e,f.2.1]
  .obtain⟨o,_,_,_,e,f,_⟩:=I.ew p _ d;refine#v[#v[o,e,f.1],λa h=>?_];cases h;exact#v[o,e,f.2.1]
 |_=>exact dc ty
def tBM(K:aw)(T:String)(r:V->bF->Hp->VK->Prop)(to:TE)(t:TA):TE:=λd H Q=>to d H λx c=>tyV K T x c/\t d c λf e=>r x f e Q
variable{o e:Expr}{es:List Expr}{to:TE}{t:TA}{name:Str}{apos cpos:Pos}{T id:String}{r:V->bF->Hp->VK->Prop}
def adM(A:ku T)(slot:Slot T name id)(hty:typeOf (.builtin id)=pure (.type "method_descriptor"))(w:MtR X id r)(y:PE X o to)(u:PA X (e::es) t)
  (hbase:autoParam (fA o name X.a4 (eval o X.a4)=eval o X.a4) zA0._auto_1)
  (hfew:autoParam (((bO cpos (aF (e::es) X.a4)).all (λx=>!x.1)&&(backToKw cpos (dP [] X.a4)).all (λx=>x.1.isSome)
   && decide ((e::es).length+([]:List eJ).length+(if ([]:List eJ).isEmpty then 0 else 1)<30))=γ) zA0._auto_1)
  (hline:autoParam ((apos.endLine==cpos.line)=γ) zA0._auto_1) (z:autoParam (aF (e::es) X.a4=(δ,eval e X.a4)::aF es X.a4) zA0._auto_1) (hplain:autoParam ((bO cpos (aF es X.a4)).any (·.1)=δ) zA0._auto_1):
  PE X (.Call (.Attribute o name apos) (e::es) [] cpos) (tBM X.K T r to t):=by
 intro c s d H Q I h;refine oW hbase hfew hline U (e3 (y c s d H _ I h) λv F zz=>?_);obtain⟨x,j,f,i,ty,B⟩:=zz;obtain⟨p,q⟩:=Z8 f i ty;refine#v[T,id,A,slot,hty,p,q,?_];have hA:=u cpos c F d j _ f B;rw[z]at hA ⊢;refine ib (by show (δ||(bO cpos (aF es X.a4)).any (·.1))=δ;rw[hplain]<;>rfl) (ie ?_)
 exact e3 hA λJ G #v[M,l,m,E,C]=>w c G d l x M v J Q m i E C
end
def MtM(X:Cx)(id:String)(r:V->bF->Hp->VK->Prop):Prop:=
 ∀(a:cO) (s:af) (d:St) (H:Hp) (x:V) (c:bF) (v:ab) (b:List ab) (Q:VK),b0 X a d H s->dd x v->c6 c b->r x c H Q->
  ao (model X.prog X.w) X.A (call (.builtin id) (v::b)) (EP X a d Q) X.xe s
def c6.one:∀{x:V} {a:List ab},c6 [x] a->∃u,a=[u]/\dd x u
 |_,_,.cons r .nil=>#v[_,U,r]
section
variable{X:Cx}{pins:cO}{σ:St}{H:Hp}{s:af}{l b:Addr}{xs ys zs:bF}
def b0.lset{a its':List ab}(I:b0 X pins σ H s)(hH:H l=Z (.a3 xs))
  (e:s.heap.get? l=Z { cls:=.type "list", data:=.seq a.toArray n }) (hf:f a.toArray=its'.toArray) (d:c6 ys its') (h:ys.length<=aJ):
  b0 X pins σ (ef H l (.a3 ys)) { s with heap:=s.heap.update l (eE f),toks:=j }:=by
 have q:=PySem.IsL.update e f;rw[hf]at q;refine I.sx (x:=l) (e:=l) (by rw[hH];exact trivial) (.inl U) (λi u hb c=>(iX s.heap (eE f) (dR hb)).t c) #v[_,q] ?_;exact#v[h,its',_,d,q]
def b0.lnew(I:b0 X pins σ H s)(a:c6 ys its)(c:ys.length<=aJ):
  b0 X pins σ (ef H s.heap.objs.size (.a3 ys)) { s with heap:=s.heap.push { cls:=.type "list", data:=.seq its.toArray },toks:=t' }:=
 I.laid (λt t q=>aT _ q) (aI _) #v[c,its,0,a,bA _ U]
theorem b0.fresh(I:b0 X pins σ H s):H s.heap.objs.size=O:=I.ew.fresh (aI _)
def b0.I?(I:b0 X pins σ H s)(hH:H l=Z (.a3 xs)):xs.length<=aJ/\∃(a:List ab) (n:Nat),c6 xs a/\xs.length=a.length/\s.heap.get? l=Z { cls:=.type "list", data:=.seq a.toArray n }:=by obtain⟨z,a,n,r,e⟩:=I.ew l _ hH;exact#v[z,a,n,r,r.length,e]
def LZ(h:n<=aJ):iU n=δ:=by unfold iU;exact aP (by omega)
end
section
variable{X:Cx}
inductive L0(x:V) (vs:bF) (H:Hp) (Q:VK):Prop
 |i (l xs y) (h0:x=.ref l) (h1:vs=[y]) (h2:H l=Z (.a3 xs)) (h3:xs.length<aJ) (h4:Q .U (ef H l (.a3 (xs++[y])))):L0 x vs H Q
def KJ:V->bF->Hp->VK->Prop:=λx a H Q=>L0 x a H Q
theorem Gi:MtM X "list.append" KJ:=by intro c s w H x p v o Q I i f h;obtain⟨l,t,y,rfl,rfl,hH,m,q⟩:=h;cases i;obtain⟨u,rfl,d⟩:=f.one;obtain⟨z,a,n,r,j,e⟩:=I.I? hH;refine fX l4 #v[_,e,U] F.entry_list_append (F.args_list_append_2 _ _) (PySem.list_append l a.toArray n u (by rw[bp];omega)) #v[e,?_];refine#v[.U,_,I.lset (its':=a++[u]) hH e (by simp) (r.append (.cons d .nil)) ?_,U,q];rw[aA,cU];omega
inductive L1(x:V) (vs:bF) (H:Hp) (Q:VK):Prop
 |i (l b xs zs) (h0:x=.ref l) (h1:vs=[.ref b]) (h2:H l=Z (.a3 xs)) (h3:H b=Z (.a3 zs)) (h4:xs.length+zs.length<=aJ) (h5:Q .U (ef H l (.a3 (xs++zs)))):L1 x vs H Q
def O0:V->bF->Hp->VK->Prop:=λx a H Q=>L1 x a H Q
def QB:MtM X "list.extend" O0:=by
 intro i s M H x E v C Q I y w h;obtain⟨l,b,F,J,rfl,rfl,hH,hB,B,q⟩:=h;cases y;obtain⟨u,rfl,t⟩:=w.one;cases t;obtain⟨z,c,n,r,A,e⟩:=I.I? hH;obtain⟨G,a,o,p,m,j⟩:=I.I? hB;have d:c.toArray.size+a.toArray.size<=aJ:=by rw[bp,bp];omega
 have hlong:¬(!c.toArray.isEmpty&&iU (c.toArray.size+a.toArray.size))=γ:=by rw[LZ d,qX];exact bH
 refine fX jR #v[_,e,U] pC (pb _ _)
  (AutoSeq1.list_extend_list_list_0 l c.toArray n b a.toArray o hlong (by rw[bp];omega) (by omega)) #v[e,j,?_]
 refine#v[.U,_,I.lset (its':=c++a) hH e (by simp) (r.append p) ?_,U,q];rw[aA];omega
inductive Yt(x:V) (y:V) (H:Hp) (Q:VK):Prop
 |i (l b xs zs) (h0:x=.ref l) (h1:y=.ref b) (h2:H l=Z (.a3 xs)) (h3:H b=Z (.a3 zs)) (h4:xs.length+zs.length<=aJ) (h5:∀p,H p=O->Q (.ref p) (ef H p (.a3 (xs++zs)))):Yt x y H Q
def rCat:R2:=λx y H Q=>Yt x y H Q
def Z9:gi X (cK .Add) rCat:=by
 intro d s G H x y v u Q I o p h;obtain⟨l,b,C,F,rfl,rfl,hH,hB,w,q⟩:=h;cases o;cases p;obtain⟨z,c,n,r,t,e⟩:=I.I? hH;obtain⟨E,a,A,m,j,f⟩:=I.I? hB;refine PySem.P.add_list e f ?_ (by rw[bp,bp];omega);have i:c.toArray++a.toArray=(c++a).toArray:=by simp
 rw[i];exact#v[.ref _,_,I.lnew (t':=s.toks) (r.append m) (by rw[aA];omega),U,q _ I.fresh]
end
section
variable{prog:aL}{w:aE}{A:aR}{E:ab->af->Prop}{s:af}
set_option maxRecDepth 100000 in
end
section
variable{κ:Type}[DecidableEq κ]
def zk(kvs:List (κ×V))(k:κ):Option V:=(kvs.find? λkv=>decide (kv.1=k)).map (·.2)
def gw(kvs:List (κ×V))(k:κ)(v:V):List (κ×V):=
 if (kvs.any λkv=>decide (kv.1=k))=γ then kvs.map (λkv=>if kv.1=k then (kv.1,v)else kv)else kvs++[(k,v)]
def Fg{p:κ×V}(e:p.1=k):zk (p::r) k=Z p.2:=by simp[zk,fO,e]
def Fh{p:κ×V}(e:¬p.1=k):zk (p::r) k=zk r k:=by simp[zk,fO,e]
theorem Ie(k:κ):∀kvs:List (κ×V),(kvs.any λkv=>decide (kv.1=k))=(zk kvs k).isSome
 |[]=>rfl
 |p::r=>by
  rw[gH];by_cases e:p.1=k
  .simp only[Fg e,aS e,Bool.true_or,Option.isSome_some]
  .rw[Fh e,aP e,mY];exact Ie k r
def Bf(kvs:List (κ×V))(k:κ)(v:V):(gw kvs k v).length<=kvs.length+1:=by
 unfold gw;split
 .rw[ae];omega
 .rw[aA,aU,dD];omega
def Sn{kvs:List (κ×V)}{k:κ}(v:V)(h:zk kvs k=O):gw kvs k v=kvs++[(k,v)]:=by unfold gw;rw[Ie,h];exact ak (by decide)
def Du.Ra(r:Du o u):o.isSome=u.isSome:=by
 cases o with
 |none=>cases u with
  |none=>rfl
  |some _=>exact(show False from r).elim
 |some _=>cases u with
  |none=>exact(show False from r).elim
  |some _=>rfl
theorem Du.getD(r:Du o u)(b:dd d a):dd (o.getD d) (u.getD a):=by
 cases o with
 |none=>cases u with
  |none=>exact b
  |some _=>exact(show False from r).elim
 |some _=>cases u with
  |none=>exact(show False from r).elim
  |some _=>exact r
def KV.val(r:KV kvs j)(k:κ):Du (zk kvs k) (valueAt j k):=by
 unfold KV at r
 induction r with
 |nil=>exact True.intro
 |@cons p q l c h t i=>
  obtain⟨d,f⟩:=h;by_cases e:p.1=k
  .have a:q.1=k:=d.symm.t e;have b:valueAt (q::c) k=Z q.2:=by simp[valueAt,fO,a]
   rw[Fg e,b];exact f
  .have a:¬q.1=k:=λz=>e (d.t z);have b:valueAt (q::c) k=valueAt c k:=by simp[valueAt,fO,a]
   rw[Fh e,b];exact i
theorem KV.any(r:KV kvs vs)(k:κ):(kvs.any λkv=>decide (kv.1=k))=vs.any λkv=>decide (kv.1=k):=by
 unfold KV at r
 induction r with
 |nil=>rfl
 |cons h t a=>rw[gH,gH,a,h.1]
def KV.repl(r:KV kvs f)(k:κ)(d:dd y u):
  KV (kvs.map λkv=>if kv.1=k then (kv.1,y)else kv) (f.map λkv=>if kv.1=k then (kv.1,u)else kv):=by
 unfold KV at r ⊢
 induction r with
 |nil=>exact .nil
 |@cons p q i j h t c=>
  rw[aV,aV];refine .cons ?_ c;obtain⟨a,b⟩:=h;by_cases e:p.1=k
  .rw[aj e,aj (a.symm.t e)];exact#v[a,d]
  .rw[ak e,ak (λz=>e (a.t z))];exact#v[a,b]
def KV.put(r:KV kvs b)(k:κ)(a:dd y u):KV (gw kvs k y) (stored b k u):=by
 unfold gw stored;rw[r.any k];by_cases e:(b.any λkv=>decide (kv.1=k))=γ
 .rw[aj e,aj e];exact r.repl k a
 .rw[ak e,ak e];exact sg r #v[U,a]
theorem KV.length(r:KV kvs a):kvs.length=a.length:=mV r
end
def Fi(r:dd (kV k) u):(v5 P w).is k u=γ:=by
 cases k with
 |inl i=>obtain⟨t,e⟩:=(show ∃t,u=Value.int i t from r);subst e;exact LQ P w i t
 |inr x=>obtain⟨t,e⟩:=(show ∃t,u=Value.str x t from r);subst e;exact LR P w x t
theorem JT:∀{a:List d?} {b:List ab},c6 (a.map kV) b->ItemsAre (v5 P w) a b
 |[],_,r=>by rw[eA]at r;cases r;exact .nil
 |k::a,_,r=>by
  rw[aV]at r;cases r with
  |cons h t=>exact .cons (Fi h) (JT t)
abbrev KT(H:Hp):List (List d?×V)->List (List d?×Addr×ab)->Prop:=gU λp q=>p.1=q.1/\H q.2.1=Z (.a7 (p.1.map kV))/\dd p.2 q.2.2
def KT.val(r:KT H kvs j)(k:List d?):Du (zk kvs k) ((atKey j k).map (·.2)):=by
 induction r with
 |nil=>exact True.intro
 |@cons p q l c h t i=>
  obtain⟨d,_,f⟩:=h;by_cases e:p.1=k
  .have a:q.1=k:=d.symm.t e;have b:atKey (q::c) k=Z q.2:=by simp[atKey,fO,a]
   rw[Fg e,b];exact f
  .have a:¬q.1=k:=λz=>e (d.t z);have b:atKey (q::c) k=atKey c k:=by simp[atKey,fO,a]
   rw[Fh e,b];exact i
def KT.repl(r:KT H kvs i)(k:List d?)(f:dd y u):
  KT H (kvs.map λkv=>if kv.1=k then (kv.1,y)else kv) (i.map (putAt k u)):=by
 induction r with
 |nil=>exact .nil
 |@cons p q j l h t d=>
  rw[aV,aV];refine .cons ?_ d;obtain⟨a,b,c⟩:=h;unfold putAt;by_cases e:p.1=k
  .rw[aj e,aj (a.symm.t e)];exact#v[a,b,f]
  .rw[ak e,ak (λz=>e (a.t z))];exact#v[a,b,c]
def KT.put(r:KT H kvs a)(k:List d?)(d:H b=Z (.a7 (k.map kV)))(c:dd y u):
  KT H (gw kvs k y) (storedH a k b u):=by
 have e:(kvs.any λkv=>decide (kv.1=k))=(atKey a k).isSome:=by rw[Ie,(r.val k).Ra,Option.isSome_map]
 unfold gw storedH;rw[e];by_cases q:(atKey a k).isSome=γ
 .rw[aj q,aj q];exact r.repl k c
 .rw[ak q,ak q];exact sg r #v[U,d,c]
def KT.keeps(r:KT H kvs e)(d:∀b a,H b=Z (.a7 a)->c b=Z (.a7 a)):KT c kvs e:=
 Paired.mapP r λt t z=>#v[z.1,d _ _ z.2.1,z.2.2]
section
variable{P:aL}{w:aE}{H:Hp}{h:Heap}{a:Addr}
def Yu(ok:n3 P w H h)(e:Rd H a u):en P w H h a u:=e.ok ok
def G2(ok:n3 P w H h)(e:Rd H a (.dK kvs)):kvs.length<=aJ/\(a==dE)=δ/\∃b,KV kvs b/\h.DictOf (v5 P w) a b:=
 show en P w H h a (.dK kvs) from Yu ok e
def So(ok:n3 P w H h)(e:H a=Z (.dK kvs)):kvs.length<=aJ/\(a==dE)=δ/\∃b,KV kvs b/\h.DictOf (v5 P w) a b:=G2 ok (.inl e)
def Ig{c:List d?}(ok:n3 P w H h)(e:H a=Z (.a7 (c.map kV))):(tupleKind (v5 P w)).is h c a:=by obtain⟨_,b,r,⟨o,d,f,n,i⟩,_⟩:=(show en P w H h a (.a7 (c.map kV)) from ok a _ e);exact#v[o,b.toArray,n,d,f,i,by simpa using JT r]
def JU(ok:n3 P w H h)(e:Rd H a (.dT kvs)):kvs.length<=aJ/\(a==dE)=δ/\
  ∃c,KT H kvs c/\h.DictOfH (tupleKind (v5 P w)) a c:=by
 obtain⟨z,y,c,r,o,i,f,j,u,A,B,C⟩:=(show en P w H h a (.dT kvs) from Yu ok e);refine#v[z,y,c,r,o,i,f,j,u,A,B,λx b=>?_,C];have all:∀{l:List (List d?×V)} {m:List (List d?×Addr×ab)},KT H l m->∀x∈m,(tupleKind (v5 P w)).is h x.1 x.2.1:=by
  intro l m q
  induction q with
  |nil=>intro x b;exact nomatch b
  |@cons p q F G d t E=>
   intro x b;rcases aM.1 b with e|b
   .subst e;exact Ig ok (by rw[<-d.1];exact d.2.1)
   .exact E x b
 exact all r x b
def dt_of(ok:n3 P w H h)(e:H a=Z (.dT kvs)):kvs.length<=aJ/\(a==dE)=δ/\
  ∃b,KT H kvs b/\h.DictOfH (tupleKind (v5 P w)) a b:=JU ok (.inl e)
end
def pa(H:Hp)(a:Addr)(y:V)(r:Option V):Prop:=
 (∃kvs k,Rd H a (.dK kvs)/\y=kV k/\r=zk kvs k)\/∃kvs k b,Rd H a (.dT kvs)/\y=.ref b/\H b=Z (.a7 (k.map kV))/\r=zk kvs k
def Sq(H:Hp)(a:Addr)(y v:V)(c:Hp):Prop:=
 (∃kvs k,H a=Z (.dK kvs)/\y=kV k/\kvs.length<aJ/\c=ef H a (.dK (gw kvs k v)))\/
 ∃kvs k b,H a=Z (.dT kvs)/\y=.ref b/\H b=Z (.a7 (k.map kV))/\kvs.length<aJ/\c=ef H a (.dT (gw kvs k v))
theorem Sq.k{H:Hp}{a:Addr}{kvs:List (d?×V)}{k:d?}{v:V}(e:H a=Z (.dK kvs))(b:kvs.length<aJ):Sq H a (kV k) v (ef H a (.dK (gw kvs k v))):=.inl #v[kvs,k,e,U,b,U]
section
variable{X:Cx}{pins:cO}{σ:St}{H:Hp}{s:af}{a:Addr}{y v:V}{u r:ab}{o:Option V}{A:aR}{E:ab->af->Prop}
def b0.big(I:b0 X pins σ H s):dE<s.heap.objs.size:=by have h:bN<s.heap.objs.size:=(I.w6.vf.keeps I.bk).lt;exact Nat.lt_trans (by decide) h
def QC(C:A.units+1<cLine)(I:b0 X pins σ H s)(g:pa H a y (Z v))(q:dd y u)(h:∀d t,b0 X pins σ H t->dd v d->Q d t):
  ao (model X.prog X.w) A (getItem (.ref a) u) Q E s:=by
 rcases g with ⟨kvs,k,e,i,l⟩|⟨kvs,k,b,e,i,x,l⟩
 .subst i;obtain⟨z,hd,F,rel,f⟩:=G2 I.ew e;obtain⟨d,m,c⟩:=Du.z0 (v:=v) (o:=valueAt F k) (by rw[l];exact rel.val k);exact wpAny_getItem_of (Fi q) f.mapOf m (h d _ (I.ri _) c)
 .subst i;cases (show u=Value.ref b from q);obtain⟨z,hd,G,rel,f⟩:=JU I.ew e;obtain⟨d,m,c⟩:=Du.z0 (v:=v) (o:=(atKey G k).map (·.2)) (by rw[l];exact rel.val k)
  obtain⟨p,B,j⟩:=dZ.1 m;refine wpAny_getItem_heap (jS C) (Ig I.ew x) f B ?_;rw[j];exact h d _ (I.ri _) c
def HL(I:b0 X pins σ H s)(d:Mut (H a))(hs:eh a s.heap h')(c:∃q,h'.get? a=Z q)(new:en X.prog X.w (ef H a ob) h' a ob):
  b0 X pins σ (ef H a ob) { s with heap:=h',toks:=t' }:=
 I.sx (x:=a) (e:=a) d (.inl U) (λb q hb z=>(hs.2 b hb).t z) c new
def NR{h':Heap}{kvs:List (d?×V)}(z:kvs.length<=aJ)(hd:(a==dE)=δ)(rel:KV kvs b)(c:h'.DictOf (v5 P w) a b):
  en P w d h' a (.dK kvs):=#v[z,hd,b,rel,c]
def QD(hu:A.units+1<cLine)(I:b0 X pins σ H s)(g:Sq H a y v N)(J:dd y u)(G:dd v r)(h:∀M,b0 X pins σ N M->Q () M):
  ao (model X.prog X.w) A (setItem (.ref a) u r) Q E s:=by
 rcases g with ⟨kvs,k,e,j,l,eH⟩|⟨kvs,k,b,e,j,B,l,eH⟩
 .subst j eH;obtain⟨z,hd,vs,rel,i⟩:=So I.ew e;have x:vs.length<=aJ:=by rw[<-rel.length];exact z
  have m:(gw kvs k v).length<=aJ:=by have:=Bf kvs k v;omega
  refine wpAny_setItem_pairs (hsz:=x) (Fi J) i λF d p=>h _ ?_;have he:∃q,F.get? a=Z q:=let #v[q,_,_,f,_]:=d;#v[q,f];exact HL I (by rw[e];exact True.intro) p he (NR m hd (rel.put k G) d)
 .subst j eH;cases (show u=Value.ref b from J);obtain⟨z,hd,xs,rel,i⟩:=dt_of I.ew e;have x:xs.length<=aJ:=by rw[<-mV rel];exact z
  have m:(gw kvs k v).length<=aJ:=by have:=Bf kvs k v;omega
  refine wpAny_setItem_heap (hsz:=x) (jS hu) (Ig I.ew B) i λF d p=>h _ ?_;obtain⟨q,R,P,f,S,T,W,_,Y⟩:=d;refine HL I (by rw[e];exact True.intro) p #v[q,f] #v[m,hd,_,(rel.put k B G).keeps λc ys C=>?_,q,R,P,f,S,T,W,Y];rw[vM (adi C e (λz=>nomatch z))];exact C
end
section
variable{X:Cx}{pins:cO}{σ:St}{H:Hp}{s:af}{a:Addr}{kvs:List (d?×V)}{k:d?}{u:ab}{A:aR}{E:ab->af->Prop}
def adN(I:b0 X pins σ H s)(e:Rd H a (.dK kvs))(h:∀t b,b0 X pins σ H b->Q (.int kvs.length t) b):ao (model X.prog X.w) A (call (.builtin "len") [.ref a]) Q E s:=by obtain⟨z,hd,d,rel,c⟩:=G2 I.ew e;refine call_len_dict hd c (by rw[<-rel.length];rw[bX]at z;omega) ?_;rw[<-rel.length];exact h _ _ (I.ri _)
end
def NoSl(i:Expr):Prop:=∀b a,subscripted i δ b a=operate [b,a] (getItem b a)
def V8{prog:aL}{w:aE}{A:aR}{E:ab->af->Prop}{s:af}{a4:Env}{value slice:Expr}{pos:Pos}{T id:String}{Q:ab->af->Prop}
  (j:typeLookup (.type T) "__getitem__" = pure (Z (.builtin id))) (l:NoSl slice)
  (h:ao (model prog w) A (eval value a4) (λo c=>ao (model prog w) A (eval slice a4) (λi a=>a.TypeIs o T/\ao (model prog w) A (getItem o i) Q E a) E c) E s):
  ao (model prog w) A (eval (.Subscript value slice pos) a4) Q E s:=by
 refine nJ (cA h (λo c e=>cA e (λi a b=>?_) λt t x=>x) λt t x=>x);obtain⟨hT,b⟩:=b;unfold subscriptTail;refine ai ?_;rw[getitemInPython_of_ne hT.not_modules];refine ai (ji hT j ?_);have fin:ao (model prog w) A (subscripted slice δ o i) (λr d=>ao (model prog w) A (letTemporaryGo value o r>>=λt=>pure r) Q E d) E a:=by rw[l o i];exact wpAny_operating (cA b (λr d f=>ai (wpAny_letTemporaryGo (ar f))) λt t x=>x)
 first
  |exact ar (ai fin)
  |exact ai (ar (ai fin))
  |exact ai fin
def L6(I:b0 X d i H s)(g:pa H a y o):s.TypeIs (.ref a) "dict" := by
 rcases g with ⟨kvs,k,e,_,_⟩|⟨kvs,k,b,e,_,_,_⟩
 .obtain⟨_,_,f,_,c⟩:=G2 I.ew e;exact c.typeIs
 .obtain⟨_,_,h,_,c⟩:=JU I.ew e;exact c.typeIs
def adO(e ty:TE):TE:=λc H Q=>e c H λx d=>ty c d λy b=>∃a v,x=.ref a/\pa b a y (Z v)/\Q v b
def Yv(h ty i:TE):TS:=λD b H=>i b H λv d=>h b d λx e=>ty b e λy f=>∃a c,x=.ref a/\Sq f a y v c/\D.nx b c
section
variable{X:Cx}{o i e value:Expr}{pos pos' tpos:Pos}{td ty tv:TE}
theorem V9(z:X.A.units+1<cLine)(t:PE X o td)(r:PE X i ty)(w:NoSl i):PE X (.Subscript o i pos) (adO td ty):=by intro b s f H Q I h;refine V8 F.slot_dict_getitem.lookup w (e3 (t b s f H _ I h) λu J #v[x,j,m,E,B]=>e3 (r b J f j _ m B) λM N zz=>?_);obtain⟨y,l,d,G,a,v,q,g,C⟩:=zz;subst q;obtain rfl:u=Value.ref a:=E;exact#v[L6 d g,QC z d g G λR P p c=>#v[v,l,p,c,C]]
def Wa(C:X.A.units+1<cLine)(z:PE X o td)(w:PE X i ty)(E:PE X value tv)(B:dQ value (Z (.Subscript o i pos')) pos.line X.a4=pure δ):
  PS X (.Assign [.Subscript o i pos'] value pos) (Yv td ty tv):=by
 intro b s c H D I h;refine wpAny_Assign_Subscript (e3 (E b s c H _ I h) λr P #v[v,d,l,J,F]=>e3 (z b P c d _ l F) λu Q #v[x,f,m,M,G]=>e3 (w b Q c f _ m G) λS T zz=>?_) B;obtain⟨y,R,p,N,a,j,t,g,q3⟩:=zz;subst t;obtain rfl:u=Value.ref a:=M;exact QD C p g N J λW q=>#v[c,j,q,q3]
end
def L7(h:Heap)(a:dE<h.objs.size):en P w H (h.push { cls:=.type "dict", data:=.dict #[] }) h.objs.size (.dK []):=
 #v[bR _,beq_eq_false_iff_ne.2 (dR (bj a)),[],.nil,vp h]
def NS:TE:=λt H Q=>∀p,H p=O->Q (.ref p) (ef H p (.dK []))
section
variable{X:Cx}{pos:Pos}
def L8:PE X (.Dict [] [] pos) NS:=λb s d H Q I h=>
 wpAny_Dict_empty #v[.ref s.heap.objs.size,_,I.laid (a:=s.heap.objs.size) (o:=.dK []) (t':=s.toks) (λt t q=>aT _ q) (aI _) (L7 s.heap I.big),U,h _ (I.ew.fresh (aI _))]
end
def KL:List (TE×TE)->St->Hp->(List (V×V)->Hp->Prop)->Prop
 |[],_,H,Q=>Q [] H
 |(f,h)::r,a,H,Q=>f a H λx b=>h a b λy c=>KL r a c λe d=>Q ((x,y)::e) d
abbrev VV:List (V×V)->List (ab×ab)->Prop:=gU λp q=>dd p.1 q.1/\dd p.2 q.2
def PPs(X:Cx)(pos:Pos)(keys:List (Option Expr))(values:List Expr)(trs:List (TE×TE)):Prop:=
 ∀(a:cO) (s:af) (b:St) (H:Hp) (Q:List (V×V)->Hp->Prop),b0 X a b H s->KL trs b H Q->
  ao (model X.prog X.w) X.A (evalPairs (pairTrees keys values X.a4 pos)) (λf e=>∃d c,b0 X a b c e/\VV d f/\Q d c) X.xe s
def Wb:PPs X pos [] [] []:=λa s b H Q I h=>pairTrees_nil_walk #v[[],H,I,.nil,h]
def Sr(l:PE X k C)(o:PE X v E)(m:PPs X pos p F trs):
  PPs X pos (Z k::p) (v::F) ((C,E)::trs):=λa s b H Q I h=>
 pairTrees_cons_walk (e3 (l a s b H _ I h) λu A #v[x,c,f,w,r]=>e3 (o a A b c _ f r) λJ B #v[y,d,i,z,t]=>
  e3 (m a B b d _ i t) λws G #v[q,e,j,rel,q3]=>#v[(x,y)::q,e,j,.cons #v[w,z] rel,q3])
def EF(kvs more:List (d?×V)):List (d?×V):=more.foldl (λacc kv=>gw acc kv.1 kv.2) kvs
def KV.merge:∀{more:List (d?×V)} {rs:List (d?×ab)} {kvs:List (d?×V)} {a:List (d?×ab)},KV more rs->KV kvs a->KV (EF kvs more) (merged a rs):=by
 intro more rs kvs a r;unfold KV at r
 induction r generalizing kvs a with
 |nil=>intro q;exact q
 |@cons p q d f h t b=>
  intro c;have e:KV (gw kvs p.1 p.2) (stored a q.1 q.2):=by have:=c.put p.1 h.2;rw[<-h.1];exact this
  exact b e
theorem Em:∀(more kvs:List (d?×V)),(EF kvs more).length<=kvs.length+more.length
 |[],kvs=>by show kvs.length<=kvs.length+0;omega
 |p::r,kvs=>by have a:=Em r (gw kvs p.1 p.2);have b:=Bf kvs p.1 p.2;show (EF (gw kvs p.1 p.2) r).length<=_;rw[aU];omega
theorem Ih:∀{kvs:List (d?×V)} {ws:List (ab×ab)},VV (kvs.map λkv=>(kV kv.1,kv.2)) ws->∃rs,Carries (v5 P w) ws rs/\KV kvs rs
 |[],_,r=>by rw[eA]at r;cases r;exact#v[[],True.intro,.nil]
 |p::kvs,_,r=>by
  rw[aV]at r;cases r with
  |@cons a b as bs h t=>obtain⟨rs,c,q⟩:=Ih (P:=P) (w:=w) t;obtain⟨e,d⟩:=b;exact#v[(p.1,d)::rs,#v[Fi h.1,U,c],.cons #v[U,h.2] q]
def Yy(trs:List (TE×TE)):TE:=λc H Q=>∀p,H p=O->KL trs c (ef H p (.dK [])) λb a=>a p=Z (.dK [])/\∃kvs:List (d?×V),b=kvs.map (λkv=>(kV kv.1,kv.2))/\kvs.length<=15/\Q (.ref p) (ef a p (.dK (EF [] kvs)))
def Wc(h:PPs X pos keys values trs)(hall:keys.all (·.isSome)=γ)(x:keys.length=values.length)(r:keys≠[])
  (f:keys.length<=15):PE X (.Dict keys values pos) (Yy trs):=by
 intro d s M H Q I q;have y:=I.ew.fresh (aI s.heap.objs.size);have l:=I.laid (a:=s.heap.objs.size) (o:=.dK []) (h':=s.heap.push { cls:=.type "dict", data:=.dict #[] }) (t':=s.toks) (λ_ _ q=>aT _ q) (aI _) (L7 s.heap I.big);refine wpAny_Dict_walk (knd:=v5 X.prog X.w) hall x r f (e3 (h d _ M _ _ l (q _ y)) λws S zz=>?_);obtain⟨R,N,i,rel,e,kvs,p,lk,E⟩:=zz;subst p;obtain⟨rs,c,G⟩:=Ih (P:=X.prog) (w:=X.w) rel;obtain⟨z,hd,J,F,m⟩:=So i.ew e;cases F;refine#v[rs,c,m,λj b B=>#v[.ref s.heap.objs.size,_,?_,U,E]];have C:(EF [] kvs).length<=aJ:=by have t:=Em kvs [];rw[dD]at t;rw[bX];omega
 have u:∃q,j.get? s.heap.objs.size=Z q:=let #v[q,_,_,A,_]:=b;#v[q,A];exact HL i (by rw[e];exact True.intro) B u (NR C hd (G.merge .nil) b)
structure M1(X:Cx)(o:Expr)(m:Str)(apos:Pos)(e:Expr)(cpos:Pos):Prop where
 a5:fA o m X.a4 (eval o X.a4)=eval o X.a4
 few:((bO cpos (aF [e] X.a4)).all (λx=>!x.1)&&(backToKw cpos (dP [] X.a4)).all (λx=>x.1.isSome)
  && decide (([e]:List Expr).length+([]:List eJ).length+(if ([]:List eJ).isEmpty then 0 else 1)<30))=γ
 line:(apos.endLine==cpos.line)=γ
 Dk:bO cpos (aF [e] X.a4)=[(δ,eval e X.a4)]
structure M2(X:Cx)(o:Expr)(m:Str)(apos:Pos)(e f:Expr)(cpos:Pos):Prop where
 a5:fA o m X.a4 (eval o X.a4)=eval o X.a4
 few:((bO cpos (aF [e,f] X.a4)).all (λx=>!x.1)&&(backToKw cpos (dP [] X.a4)).all (λx=>x.1.isSome)
  && decide (([e,f]:List Expr).length+([]:List eJ).length+(if ([]:List eJ).isEmpty then 0 else 1)<30))=γ
 line:(apos.endLine==cpos.line)=γ
 Dk:bO cpos (aF [e,f] X.a4)=[(δ,eval e X.a4),(δ,eval f X.a4)]
def IsD(H:Hp)(a:Addr):Prop:=(∃kvs,Rd H a (.dK kvs))\/∃kvs,Rd H a (.dT kvs)
def KM(I:b0 X j o H s)(d:IsD H a):
  s.TypeIs (.ref a) "dict" /\ (∀b,Value.ref a=.ref b->∃c,s.heap.get? b=Z c/\c.dict=O)/\(a==dE)=δ:=by
 rcases d with ⟨kvs,e⟩|⟨kvs,e⟩
 .obtain⟨_,hd,l,_,f⟩:=G2 I.ew e;refine#v[f.typeIs,λb q=>?_,hd];cases q;obtain⟨c,_,_,h,i,_⟩:=f;exact#v[c,h,i.2.1]
 .obtain⟨_,hd,m,_,f⟩:=JU I.ew e;refine#v[f.typeIs,λb q=>?_,hd];cases q;obtain⟨c,_,_,h,i,_⟩:=f;exact#v[c,h,i.2.1]
section
variable{X:Cx}{pins:cO}{σ:St}{H:Hp}{s:af}{a:Addr}{y d:V}{u r:ab}{o:Option V}{A:aR}{E:ab->af->Prop}
def Ss(q:A.units+1<cLine)(I:b0 X pins σ H s)(g:pa H a y o)(i:dd y u)(h:∀m j,b0 X pins σ H j->dd (o.getD .U) m->Q m j):
  ao (model X.prog X.w) A (call (.builtin "dict.get") [.ref a,u]) Q E s:=by
 rcases g with ⟨kvs,k,e,f,l⟩|⟨kvs,k,b,e,f,p,l⟩
 .subst f;obtain⟨z,hd,x,rel,c⟩:=G2 I.ew e;refine iC fP c.typeIs jg (mm _ _) (qY (v5 X.prog X.w) a (Fi i) hd) #v[_,c.mapOf,h _ _ (I.ri _) ?_];rw[l];exact(rel.val k).getD U
 .subst f;cases (show u=Value.ref b from i);obtain⟨z,hd,t,rel,c⟩:=JU I.ew e;refine iC fP c.typeIs jg (mm _ _) (meetsH_dict_get (tupleKind (v5 X.prog X.w)) a b hd) #v[jS q,k,t,Ig I.ew p,c,h _ _ (I.ri _) ?_];rw[l];exact(rel.val k).getD U
def aab(t:A.units+1<cLine)(I:b0 X pins σ H s)(g:pa H a y o)(j:dd y u)(i:dd d r)(h:∀p m,b0 X pins σ H m->dd (o.getD d) p->Q p m):
  ao (model X.prog X.w) A (call (.builtin "dict.get") [.ref a,u,r]) Q E s:=by
 rcases g with ⟨kvs,k,e,f,l⟩|⟨kvs,k,b,e,f,q,l⟩
 .subst f;obtain⟨z,hd,B,rel,c⟩:=G2 I.ew e;refine iC fP c.typeIs jg (qb _ _ _) (meets_dict_get_default (v5 X.prog X.w) a (Fi j) hd r) #v[_,c.mapOf,h _ _ (I.ri _) ?_];rw[l];exact(rel.val k).getD i
 .subst f;cases (show u=Value.ref b from j);obtain⟨z,hd,x,rel,c⟩:=JU I.ew e;refine iC fP c.typeIs jg (qb _ _ _) (meetsH_dict_get_default (tupleKind (v5 X.prog X.w)) a b hd r) #v[jS t,k,x,Ig I.ew q,c,h _ _ (I.ri _) ?_];rw[l];exact(rel.val k).getD i
end
def aac(e ty:TE):TE:=λd H Q=>e d H λx b=>∃a,x=.ref a/\IsD b a/\ty d b λy c=>∃o,pa c a y o/\Q (o.getD .U) c
def aad(f ty tx:TE):TE:=λb H Q=>f b H λx c=>∃a,x=.ref a/\IsD c a/\ty b c λy e=>tx b e λz d=>∃o,pa d a y o/\Q (o.getD z) d
section
variable{X:Cx}{o e f:Expr}{apos cpos:Pos}{td ty tx:TE}
def Su(B:X.A.units+1<cLine)(z:PE X o td)(w:PE X e ty)(m:M1 X o "get" apos e cpos):PE X (.Call (.Attribute o "get" apos) [e] [] cpos) (aac td ty):=by intro b s j H Q I h;refine jU m.a5 m.few m.line jV fP mK (e3 (z b s j H _ I h) λu J zz=>?_);obtain⟨x,l,i,F,a,t,d,C⟩:=zz;subst t;obtain rfl:u=Value.ref a:=F;obtain⟨M,N,_⟩:=KM i d;refine#v[M,N,?_];rw[m.Dk];refine ib U (ie (eX (e3 (w b J j l _ i C) λP S #v[y,p,q,G,R,g,E]=>gq ?_)));exact Ss B q g G λW T r c=>#v[_,p,r,c,E]
def Sv(G:X.A.units+1<cLine)(F:PE X o td)(C:PE X e ty)(E:PE X f tx)(m:M2 X o "get" apos e f cpos):PE X (.Call (.Attribute o "get" apos) [e,f] [] cpos) (aad td ty tx):=by
 intro b s i H Q I h;refine jU m.a5 m.few m.line jV fP mK (e3 (F b s i H _ I h) λu S zz=>?_);obtain⟨x,l,j,N,a,B,d,J⟩:=zz;subst B;obtain rfl:u=Value.ref a:=N;obtain⟨W,Y,_⟩:=KM j d;refine#v[W,Y,?_];rw[m.Dk];refine ib U (ie (eX (e3 (C b S i l _ j J) λiv T #v[y,p,r,P,M]=>
  eX (e3 (E b T i p _ r M) λfv s3 #v[z,q,t,R,ov,g,q3]=>gq ?_))))
 exact aab G t g P R λw' s4 w c=>#v[_,q,w,c,q3]
end
end L2
namespace Att
open PySem PySem.W PySem.Calls PyProof.Rows
def HB:∀(c:List Int) (d:List ab),WellAll P h d (c.map WData.int)->ju d c:=by
 intro c
 induction c with
 |nil=>intro d w;rw[eA]at w;cases w;exact .nil
 |cons n c e=>
  intro d w;rw[aV]at w;cases w with
  |cons a b=>cases a;exact .cons _ _ (e _ b)
def QE{l:iM}(t:l.most=Z n)
  (hpre:l.row.toRowW.claim.pre args=γ) (hwl:WellAll P h vals args):
  ∃a j b,vals=[Value.ref a]/\args=[WData.list (b.map WData.int)]/\h.get? a=Z { cls:=.type "list", data:=.seq j.toArray }/\ju j b/\b.length<=n:=by
 have hsh:WShape.hasAll [] args [.list .int]=γ:=(pre_splitW hpre).1;have i:l.pre.holds [] { args:=args }=γ:=(pre_splitW hpre).2;obtain⟨d,r,rfl,m,o⟩:=hasAllW_cons hsh;obtain rfl:=hasAllW_nil o;obtain⟨z,rfl,p⟩:=hasW_list m;obtain⟨b,rfl⟩:=items_int p;have c:b.length<=n:=by
  unfold OpenLaw.pre at i;have e:(WTm.not (.lt (.lit (.int (n:Int))) (.len (.arg 0)))).holds [] { args:=[.list (b.map .int)] }=γ:=by have e:=(holds_andW i).1;rw[t]at e;exact e
  have f:=condW_of e (w_not (w_lt w_lit (w_len_list (w_arg U))));rw[ae]at f;refine qy λq=>?_;have w:(n:Int)<((b.length:Nat):Int):=by omega
  first
   |(rw[aS w]at f;exact aq f (by decide))
   |(simp at f;omega)
 cases hwl with
 |cons x y=>
  cases y;cases x with
  |list u hall=>exact#v[_,_,b,U,U,u,HB b _ hall,c]
def QF(l:iM)(args:List WData):l.row.toRowW.claim.post args (.bool γ) args=γ:=
 postW_of (r:=l.row.toRowW) (X:=(γ==γ))
  (show su [] (.bool γ) .bool=γ by first|rfl|decide|simp[su,WShape.arms,WShape.armsAll])
  (show (WTm.eq .res (.lit (.bool γ))).value [] { args:=args,res:=Z (.bool γ),after:=args }=Z (.bool (γ==γ)) from w_eq_bool (w_res U) w_lit) U
def D0{l:iM}{d:DefRec}
  (B:l.most=Z n) (hdf:d.params.defaults=[])
  (call:∀(w:aE) (c b:af) (j t:Str->Option ab) (h:Addr) (o:Obj) (pm cd doc:ab) (a:Addr) (e:List ab) (m:List Int),
   Ground q loose [] XP w c j t b.heap->YP w b.heap->
   b.heap.get? h=Z o->o.data=.func (docDef d.name d.params d.body d.scope pm cd doc)->b.heap.CodeRec cd d.name->j d.name=Z (.ref h)->
   b.heap.get? a=Z { cls:=.type "list", data:=.seq e.toArray }->ju e m->m.length<=n->b.gens=#[]->
   cG (model l.prog w) callerA (.call (.ref h) #v[[.ref a],[]]) (λr p=>r=.ok (.ret (.bool γ))/\OldK b.heap p.heap/\p.os=b.os/\fE p.gens) b):
  WalkO q loose XP YP l.row.toRowW d [] (λf e=>nL f e):=by
 intro w c b j t G Y h o pm cd doc dV kV C hd hcd hD hmg z args vals as hpre hlay hrd hwl hlo;obtain rfl:dV=.none:=Dflts.none hD hdf;obtain rfl:kV=.none:=Dflts.noKw hD;obtain⟨a,e,m,rfl,rfl,hobj,hints,i⟩:=QE B hpre hwl;refine enter_call (iA (call w c b j t h o pm cd doc a e m G Y C (fd_plain hd) hcd hmg hobj hints i z) λr p E=>?_);obtain⟨rfl,u,x,y⟩:=E;exact#v[.inl #v[.bool γ,.bool γ,[],U,λs=>U,.bool γ,QF l _,λs=>#v[List.Pairwise.nil,λs A=>(nomatch A)]],u,x,y]
end Att
namespace L2
open PySem PySem.Spec PyProof.Rows
theorem JV:∀{b:List ab} {a:List Int},ju b a->c6 (a.map V.int) b
 |_,_,.nil=>.nil
 |_,_,.cons n t h=>.cons #v[t,U] (JV h)
def Only(H:Hp):Prop:=∀b,H b=O\/∃o a,H b=Z (.mr o (.a3 a))
def Sw{K:aw}{c:af}{j:List ab}
  (KX:K.In c.heap) (hns:c.heap.Ns bN A) (f:c.heap.Ns builtinsNs N) (hbb:∀x:Str,x≠"__name__" -> N x=ee x) (hlim:c.heap.NoLimit) (hg:c.gens=#[])
  (y:c.heap.get? a=Z { cls:=.type "list", data:=.seq j.toArray }) (J:ju j B) (M:B.length<=aJ) (hr:ye k callerA)
  (F:∀a5:Heap,K.In a5->a5.Ns bN A->zI P w K A a5 CX k I W [x] sp) (hbind:∀(s:af) (u:ab),iN s W #v[[u],[]] [(x,u)])
  (hsp:∀H:Hp,Only H->e8 K H a (B.map V.int)->sp [.ref a] H (λv _=>v=.X γ) λ_ _ _=>False)
  (hCX:∀H e i,CX [] H c (λ_ _ _=>False) e i->False):
  cG (model P w) callerA (.call (.ref I) #v[[.ref a],[]]) (λr i=>r=.ok (.ret (.bool γ))/\OldK c.heap i.heap/\i.os=c.os/\fE i.gens) c:=by
 have Q:=JV J;have lenV:=J.length;have core:∀H:Hp,Only H->e8 K H a (B.map V.int)->n3 P w H c.heap->(∀b,H b≠O->b=a)->(H a≠O->K.lookup a=O)->
   cG (model P w) callerA (.call (.ref I) #v[[.ref a],[]]) (λr i=>r=.ok (.ret (.bool γ))/\OldK c.heap i.heap/\i.os=c.os/\fE i.gens) c:=by
  intro H hO hS ew hA hK;have base_of:∀{b:Addr} {o:Obj},c.heap.get? b=Z o->H b=O->(Kw c.heap H).get? b=Z o:=λe n=>RK e n;have noA:∀{b:Addr} {o:Obj} {p:Array DictEntry} {l:Nat},c.heap.get? b=Z o->o.data=.dict p l->H b=O:=λ{b o p l} e d=>by
   cases q:H b with
   |none=>rfl
   |some u=>have C:b=a:=hA b (by rw[q];simp);subst C;rw[y]at e;cases e;have R:Data.seq j.toArray _=Data.dict p l:=d;cases R
  have nsK:∀{b:Addr} {m:Str->Option ab},c.heap.Ns b m->(Kw c.heap H).Ns b m:=λ{b m} #v[o,p,l,e,d,r]=>#v[o,p,l,base_of e (noA e d),d,r];have hKb:K.In (Kw c.heap H):=λb o e=>base_of (KX b o e) (by
   cases q:H b with
   |none=>rfl
   |some u=>
    have C:b=a:=hA b (by rw[q];simp);subst C;rw[hK (by rw[q];simp)]at e;cases e)
  have hM:Mod K A (Kw c.heap H):=#v[hKb,nsK hns,#v[N,nsK f,hbb],let #v[mc,X,Y]:=hlim;#v[mc,nsK X,Y]];have S:NO P w K A (Kw c.heap H) callerA [] c H:=#v[U,hM,λb o e=>VL e,rM (Qn _ _),trivial,λb f=>aq (show b∈([]:List Addr) from f) (by simp),ew,.of_eq hg];refine iA ((F _ hKb (nsK hns)).run callerA [] c H #v[[.ref a],[]] [.ref a] [.ref a] _ _ hr S (hbind c (.ref a)) (.cons U .nil) (hsp H hO hS)) λr i h=>?_;cases r with
  |error e=>exact(hCX H e i h).elim
  |ok fl=>
   cases fl with
   |next=>exact dc h
   |brk=>exact dc h
   |cont=>exact dc h
   |ret u=>
    obtain⟨v,H',os,i2,un,hok',r',q⟩:=h;have q':v=.X γ:=q;subst q';obtain rfl:u=Value.bool γ:=r';refine#v[U,OldK.of_keep λb o e=>?_,os,i2];cases q:H b with
    |none=>exact un.keep b o e q (by intro z;exact aq (show b∈([]:List Addr) from z) (by simp)) (by simp)
    |some u=>
     rcases hO b with z|⟨ob,xs,z⟩
     .rw[q]at z;cases z
     .have z2:=un.vr b ob _ z;obtain⟨G,_⟩:=ew b _ z;obtain⟨T,_⟩:=hok' b _ z2;rw[e]at G;cases G;exact T
 cases E:K.lookup a with
 |some o=>have e:=KX a o E;rw[y]at e;cases e;refine core (λ_=>O) (λ_=>.inl U) (.inr #v[_,j.toArray,_,E,U,U,U,by rw[bp,lenV];exact M,by simpa using Q]) (λb u z=>by have t:(O:Option HO)=Z u:=z;cases t) (λb z=>aq U z) λz=>aq U z
 |none=>
  refine core (λb=>if b=a then Z (.mr { cls:=.type "list", data:=.seq j.toArray } (.a3 (B.map V.int)))else O) (λb=>?_) (.inl (.inr #v[{ cls:=.type "list", data:=.seq j.toArray },aj U])) (λb u z=>?_) (λb z=>?_) λ_=>E
  .by_cases f:b=a
   .exact .inr #v[_,_,aj f]
   .exact .inl (ak f)
  .by_cases f:b=a
   .have t:=(aj f).symm.t z;cases t;subst f;exact#v[y,by rw[ae];exact M,j,_,Q,y]
   .have t:=(ak f).symm.t z;cases t
  .by_cases f:b=a
   .exact f
   .exact aq (ak f) z
def We{l:iM}{n k:Nat}{q:aL}{loose:aB}{XP:(Str->Option ab)->Heap->Prop}{YP:aE->Heap->Prop}{d:DefRec}{K:Params->aw}{CX:aE->ι}{sp:aE->Sp}{x:Str}
  (E:l.most=Z n) (t:n<=aJ) (hdf:d.params.defaults=[]) (I:ye k callerA)
  (hY:∀(w:aE) (h:Heap),YP w h->(K w.params).In h)
  (F:∀(w:aE) (i:Str->Option ab) (m:Addr) (h:Heap),(K w.params).In h->h.Ns bN i->i d.name=Z (.ref m)->
   ∃r:cn,(∀(s:af) (u:ab),iN s r #v[[u],[]] [(x,u)])/\
    ∀a5:Heap,(K w.params).In a5->a5.Ns bN i->zI l.prog w (K w.params) i a5 (CX w) k m r [x] (sp w))
  (hsp:∀(w:aE) (H:Hp) (a:Addr) (p:List Int),p.length<=n->Only H->e8 (K w.params) H a (p.map V.int)->sp w [.ref a] H (λv _=>v=.X γ) λ_ _ _=>False)
  (hCX:∀(w:aE) (H:Hp) (s:af) (e:ab) (y:af),CX w [] H s (λ_ _ _=>False) e y->False):
  W.WalkO q loose XP YP l.row.toRowW d [] (λf A=>nL f A):=by
 refine Att.D0 E hdf λw z j i M m o pm cd doc a A p G Y J hd hcd hmg hobj hints c C=>?_;have KX:=hY w _ Y;obtain⟨r,B,hF⟩:=F w i m _ KX G.T.g hmg;exact Sw KX G.T.g G.T.b G.T.builtins G.T.nolimit C hobj hints (bz c t) I hF B (λH hO hS=>hsp w H a p c hO hS) λH e y=>hCX w H j e y
def a8(s:Stmt)(j:Nat):Stmt:=match s with
 |.ClassDef _ _ _ body _ _ _ _ _ _ _=>body.getD j (.Pass #v[0,0,0,0])
 |_=>.Pass #v[0,0,0,0]
def zl(s:Stmt):Arguments:=match s with
 |.FunctionDef _ a _ _ _ _ _ _ _ _=>a
 |_=>{ posonlyargs:=[],args:=[],vararg:=O,kwonlyargs:=[],kw_defaults:=[],kwarg:=O,defaults:=[] }
def wM(s:Stmt):List Stmt:=match s with
 |.FunctionDef _ _ b _ _ _ _ _ _ _=>b
 |_=>[]
def v8(s:Stmt):cR:=match s with
 |.FunctionDef _ _ _ _ _ _ a _ _ _=>a
 |_=>{ kind:=.function,names:=[],isGenerator:=δ,isCoroutine:=δ }
abbrev x?:ι:=λt t t t t t=>False
abbrev E0:XK:=λt t t=>False
def L9:nr x? X E0:=λt t t t t t t h=>h.elim
structure Xi(K:aw)(x qual:Str)(st:Stmt)(f:Addr)(fd:cn):Prop where
 ex:∃(oc:ab) (od:Option Addr) (kV doc pm:ab) (an:Option Addr) (cdv ct:ab) (osl:Array (Option ab)),
  fd=fH x qual (zl st) (wM st) (v8 st) .none kV doc pm an cdv ct/\K.lookup f=Z #v[oc,od,.func fd,osl]/\iK K cdv qual=γ
 kp:eG K (.ref f)=γ
section
variable{P:aL}{w:aE}{K:aw}{mg:Str->Option ab}{a5:Heap}
theorem Xi.ok{x qual:Str}{st:Stmt}{f:Addr}{c:cn}{N ps:aB}{k:Nat}{b:Sp}(F:Xi K x qual st f c)(S:yJ N ps (v8 st))(len:∀a H Q E,b a H Q E->a.length=ps.length)
  (hbody:∀(cdv:ab) (A:aR) (b4:List Env) (s:af) (H:Hp) (a:bF) (Q:VK) (E:XK),ye k (A.deeper (envOfC qual (v8 st) s.heap.objs.size f cdv))->b a H Q E->
   ∃t,m? (LW x? P w K mg a5 N qual (v8 st) f cdv A b4 s H E).nox (wM st) t/\t { nx:=λ_ d=>Q .U d,rt:=Q } (start N a) H):zI P w K mg a5 x? (k+1) f c ps b:=by
 obtain⟨l,m,kV,doc,pm,i,cdv,j,osl,rfl,lk,hcd⟩:=F.ex;refine Yo lk hcd S len λA b4 s H a Q E e hsp=>?_;obtain⟨t,h,q⟩:=hbody cdv A b4 s H a Q E e hsp;exact#v[t,h.nox,q]
theorem Xi.p0{x qual:Str}{st:Stmt}{f:Addr}{e:cn}{c:aB}(F:Xi K x qual st f e)
  (h:∀(kV doc pm:ab) (a:Option Addr) (cdv b:ab) (d:List ab),d.length=c.length->bindArgs (fH x qual (zl st) (wM st) (v8 st) .none kV doc pm a cdv b) #v[d,[]]=pure (c.zip d)):i? K e c []:=by
 obtain⟨i,j,kV,doc,pm,a,cdv,b,osl,rfl,lk,hcd⟩:=F.ex;exact .all (h kV doc pm a cdv b)
end
def Ma(a:ye k A):A.units+1<cLine:=gn (Nat.add_le_add_left (by decide:1<=64) _) a.units
def BZ(h:n<=1000):n<aJ:=gn h (by decide)
section
variable{X:Cx}
def pv(i:Nat)(hN:autoParam (X.N[i]?=Z x) zA0._auto_1)(a:Vis X.a4.scope x:=by first|exact Or.inl U|exact Or.inr (Or.inl U)|exact Or.inr (Or.inr U))(hd:autoParam ((x==("__debug__" : Str))=δ) zA1._auto_1)
  (hcd:autoParam ((x==("__classdict__" : Str))=δ) zA1._auto_1):PE X (.Name x pos) (EE i):=Zk hN a hd hcd
end
set_option r "N B δ k bH;O A γ j U" in def Kϑ0{A B:Prop}(h:ϑ1):if ϑ2=γ then A else B:=by rw[aϑ3 ϑ4];exact h
def vX(H a:Hp):Prop:=∀b o,H b=Z o->a b=Z o
def vX.refl(H:Hp):vX H H:=λt t h=>h
def vX.t(a:vX H d)(b:vX d e):vX H e:=λc o h=>b c o (a c o h)
def vX.seq{K:aw}{H b:Hp}{a:Addr}{xs:bF}(e:vX H b)(h:e8 K H a xs):e8 K b a xs:=by
 rcases h with (h|⟨o,h⟩)|h
 .exact .inl (.inl (e _ _ h))
 .exact .inl (.inr #v[o,e _ _ h])
 .exact .inr h
end L2
set_option maxHeartbeats 4000000
namespace L3
open PySem PySem.Spec PyProof.Rows L2
abbrev St:=L2.St
theorem Ii{d a:Type}{f:d->a->Sem (ForInStep a)}{g:a->d->a}:∀(l:List d) (b:a),(∀x∈l,∀c,f x c=pure (ForInStep.yield (g c x)))->(forIn l b f:Sem a)=pure (l.foldl g b)
 |[],b,_=>by simp
 |x::r,b,h=>by rw[List.forIn_cons,h x ba b];show (forIn r (g b x) f:Sem a)=_;rw[Ii r (g b x) λy e c=>h y (a9 _ e) c];rfl
def Do(cells:List (Str×Addr))(cs:List (Str×Addr))(x:Str×eI):List (Str×Addr):=if (x.2==NameKind.free)=γ then (x.1,(cells.lookup x.1).getD 0)::cs else cs
def AK(cells:List (Str×Addr))(names:List (Str×eI)):List (Str×Addr):=names.foldl (Do cells) []
def JB{scope:cR}{a4:Env}(h:∀x∈scope.names,x.2=.free->∃c,a4.cells.lookup x.1=Z c):
  closureFor scope a4=pure (AK a4.cells scope.names):=by
 simp only[closureFor];rw[Ii (g:=Do a4.cells) scope.names [] λx i c=>by
  obtain⟨n,k⟩:=x;by_cases b:k=.free
  .subst b;obtain⟨a,e⟩:=h _ i U;have d:=e;simp only[Do,cellOf,d,beq_self_eq_true,if_true,qz];rfl
  .have f:(k==NameKind.free)=δ:=by simpa using b
   simp only[Do,f,gp,if_false]]
 rfl
set_option h true
theorem Mb{cells:List (Str×Addr)}:∀(names:List (Str×eI)) (acc:List (Str×Addr)),(∀x∈names,x.2=.free->∃c,cells.lookup x.1=Z c)->(∀x c,acc.lookup x=Z c->cells.lookup x=Z c)->
  ∀x c,(names.foldl (Do cells) acc).lookup x=Z c->cells.lookup x=Z c
 |[],acc,_,j,x,c,e=>j x c e
 |y::r,acc,h,j,x,c,e=>by
  refine Mb r (Do cells acc y) (λz p=>h z (a9 _ p)) (λz d b=>?_) x c e;obtain⟨n,k⟩:=y;unfold Do at b;split at b
  .rename_i o;obtain⟨a,m⟩:=h (n,k) ba (by simpa using o);have f:=m;rw[fo]at b;cases l:z==n with
   |true=>rw[l]at b;have i:=b;rw[f]at i;rw[fY l,f];exact i
   |false=>rw[l]at b;exact j z d b
  .exact j z d b
set_option h false
theorem JW:∀(names:List (Str×eI)) (acc:List (Str×Addr)) (x:Str),(∃c,acc.lookup x=Z c)->∃c,(names.foldl (Do cells) acc).lookup x=Z c
 |[],_,_,h=>h
 |y::r,acc,x,h=>by
  refine JW r (Do cells acc y) x ?_;unfold Do;split
  .rw[fo];cases x==y.1 with
   |true=>exact#v[_,U]
   |false=>exact h
  .exact h
theorem Ik:∀(names:List (Str×eI)) (acc:List (Str×Addr)) (x:Str),(x,NameKind.free)∈names->∃c,(names.foldl (Do cells) acc).lookup x=Z c
 |[],_,_,h=>by cases h
 |y::r,acc,x,h=>by
  rcases aM.1 h with e|h
  .subst e;refine JW r _ x ?_;unfold Do;rw[aj (by simp),fo];simp
  .exact Ik r _ x h
set_option h true
theorem Cp{a4:Env}(x:Str):∀(names:List (Str×eI)),
  (names.map λ(n,k)=>if (k==NameKind.free&&a4.scope.kind==.function&&a4.kindOf n==Z .cell)then (n,NameKind.cell)else (n,k)).lookup x=
   (names.lookup x).map λk=>if (k==NameKind.free&&a4.scope.kind==.function&&a4.kindOf x==Z .cell)=γ then NameKind.cell else k
 |[]=>rfl
 |(n,k)::r=>by
  have c:=Cp (a4:=a4) x r;rw[aV,fo (k:=n)];show dO x ((if (k==NameKind.free&&a4.scope.kind==.function&&a4.kindOf n==Z .cell)=γ then (n,NameKind.cell)else (n,k))::_)=_;cases a:x==n with
  |true=>
   have e:=fY a;subst e;split
   .rename_i b;simp only[fo,a,gy,b,if_true]
   .rename_i b;simp only[fo,a,gy];rw[ak b]
  |false=>
   rw[<-c];split
   .simp only[fo,a]
   .simp only[fo,a]
set_option h false
def NT{scope:cR}(hcell:∀y∈scope.names,y.2≠.cell)(h:(relabel scope a4).names.lookup x=Z .cell\/(relabel scope a4).names.lookup x=Z .free):(x,NameKind.free)∈scope.names:=by
 have e:=Cp (a4:=a4) x scope.names;have a:(scope.names.lookup x).map (λk=>if (k==NameKind.free&&a4.scope.kind==.function&&a4.kindOf x==Z .cell)=γ then NameKind.cell else k)=Z .cell\/
   (scope.names.lookup x).map (λk=>if (k==NameKind.free&&a4.scope.kind==.function&&a4.kindOf x==Z .cell)=γ then NameKind.cell else k)=Z .free:=by
  rw[<-e];exact h
 cases q:scope.names.lookup x with
 |none=>rw[q]at a;rcases a with z|z<;>cases z
 |some k=>
  rw[q]at a;have b:=mem_of_lookup q;have c:=hcell _ b;cases k with
  |free=>exact b
  |cell=>exact aq U c
  |_=>rcases a with z|z<;>cases z
def JC{scope:cR}(h:scope.names.lookup x=Z .free):(relabel scope a4).names.lookup x=Z .cell\/(relabel scope a4).names.lookup x=Z .free:=by
 have e:=Cp (a4:=a4) x scope.names;have a:(relabel scope a4).names.lookup x=(scope.names.lookup x).map λk=>if (k==NameKind.free&&a4.scope.kind==.function&&a4.kindOf x==Z .cell)=γ then NameKind.cell else k:=e
 rw[a,h,gy];split
 .exact .inl U
 .exact .inr U
def xJ(X:Cx)(a:aB)(scope:cR)(cl:List (Str×Addr))(C:Addr)(fp:List Addr)(s:af)(H:Hp):Cx:=
 { X with N:=a,s₀:=s,H₀:=H,a4:=compEnvC scope cl C X.a4,b4:=X.stack,ex:=fp,fn:=λt=>δ,pn:=[],xe:=λt t=>False }
def PIf(X:Cx)(ifs:List Expr)(t:TT):Prop:=
 ∀(a:cO) (s:af) (b:St) (H:Hp) (Q:Bool->Hp->Prop),b0 X a b H s->t b H Q->
  ao (model X.prog X.w) X.A (forIn ifs γ λc r=>if r=γ then do let ok<-isTrue c X.a4 (eval c X.a4);pure (ForInStep.yield ok)else pure (ForInStep.yield r)) (TP X a b Q) X.xe s
def tIf0:TT:=λt H Q=>Q γ H
def Wf:PIf X [] tIf0:=λt t t H t I h=>wpAny_tests_nil #v[H,I,h]
def Wg(h:PT X c t):PIf X [c] t:=λa s d H Q I b=>wpAny_tests_one (h a s d H Q I b)
section
variable{prog:aL}{w:aE}{A:aR}{R:gX->af->Prop}{s:af}
def KP(J:Nat->af->Prop)
  (turn:∀n s,J n s->ao (model prog w) A (pyNext B) (λr d=>match r with
   |none=>R (.ok .next) d
   |some v=>ao (model prog w) A (jh target B v) (λ_ f=>ao (model prog w) A (assign target a4 v) (λ_ o=>
     ao (model prog w) A (forIn ifs γ λc r=>if r=γ then do let ok<-isTrue c a4 (eval c a4);pure (ForInStep.yield ok)else pure (ForInStep.yield r)) (λok i=>
      if ok=γ then ao (model prog w) A (eval elt a4) (λx p=>
       ao (model prog w) A (call (.builtin "list.append") [acc,x]) (λ_ q=>∃m,m<n/\J m q) (notedBy (model prog w) A a4 λe b=>R (.error e) b) p) (notedBy (model prog w) A a4 λe b=>R (.error e) b) i
      else ∃m,m<n/\J m i) (notedBy (model prog w) A a4 λe b=>R (.error e) b) o) (notedBy (model prog w) A a4 λe b=>R (.error e) b) f)
      (notedBy (model prog w) A a4 λe b=>R (.error e) b) d) (notedBy (model prog w) A a4 λe b=>R (.error e) b) s)
  (n:Nat) (h:J n s):
  cG (model prog w) A (.compLoop (.ListComp elt [#v[target,iter,ifs,0]] scope pos) 0 B acc a4) R s:=by
 refine codeAny_loop U J (λn s hI=>?_) n h;refine wpAny_noted ?_;rw[compTurn_list];refine ai (rF (ai (cA (turn n s hI) (λr d j=>?_) λ_ _ a=>a)));cases r with
 |none=>exact ar j
 |some v=>
  refine ai (cA j (λ_ f t=>?_) λ_ _ a=>a);refine ai (cA t (λ_ o u=>ai (cA u (λok i l=>?_) λ_ _ a=>a)) λ_ _ a=>a);cases ok with
  |false=>exact ar #v[U,l]
  |true=>exact ai (ai (cA l (λx p y=>ai (cA y (λ_ q z=>ar (ar #v[U,z])) λ_ _ a=>a)) λ_ _ a=>a))
end
def zm(k:Nat)(d3:List Nat)(a:St):St:=fw k O++d3.map λj=>(a[j]?).join
def JX(h:(zm k d3 b)[i]?=Z (Z v)):k<=i:=by
 by_cases a:k<=i
 .exact a
 .unfold zm at h;rw[gh (by rw[c7];omega),jJ]at h;split at h<;>cases h
def QG{k:Nat}{d3:List Nat}{b:St}{N a:aB}{i:Nat}{v:V}{x:Str}(hcap:(a.drop k).map Z=d3.map λj=>N[j]?)(f:a[i]?=Z x)(h:(zm k d3 b)[i]?=Z (Z v)):
  ∃j:Nat,N[j]?=Z x/\b[j]?=Z (Z v)/\x∈a.drop k:=by
 have d:=JX h;unfold zm at h;rw[gf (by rw[c7];exact d),c7,bg]at h;have hd:(a.drop k)[i - k]?=Z x:=by rw[eZ,show k+(i - k)=i by omega];exact f
 have e:=bE (λl=>l[i - k]?) hcap;simp only[bg,hd,gy]at e;cases q:d3[i - k]? with
 |none=>rw[q]at h;cases h
 |some j=>
  rw[q]at h e;simp only[gy,vg]at h e;refine#v[j,e.symm,?_,bV hd];cases z:b[j]? with
  |none=>rw[z]at h;cases h
  |some o=>rw[z]at h;have c:o=Z v:=h;rw[c]
def G3(t:TI)(g:TG)(r:TT)(q:TE)(k:Nat)(d3:List Nat):TE:=λe H Q=>t e H λJ f=>∀p,f p=O->
 ∃W:Nat->Nat->bF->Hp->Prop,(∃m,W 0 m [] (ef f p (.a3 [])))/\∀i m acc c,W i m acc c->
  (J.stop i c/\Q (.ref p) c)\/
   (J.go i c/\∀x h,J.yld i c x h->g x (zm k d3 e) h λa o=>a.drop k=(zm k d3 e).drop k/\r a o λb j=>
    if b=γ then q a j λy l=>∃acc',l p=Z (.a3 acc')/\acc'.length<aJ/\∃d,d<m/\W (i+1) d (acc'++[y]) (ef l p (.a3 (acc'++[y])))
    else ∃d,d<m/\W (i+1) d acc j)
def JY{X:Cx}{d3:List Nat}
  (hc:X.mi=γ) (hi:PI X tg iter wi)
  (body:∀(cl:List (Str×Addr)) (C:Addr) (fp:List Addr) (s:af) (H:Hp),PG (xJ X B scope cl C fp s H) tg g/\PIf (xJ X B scope cl C fp s H) ifs tt/\PE (xJ X B scope cl C fp s H) elt te)
  (hkind:scope.kind=.function) (hcell:(scope.names.all λy=>y.2 != .cell)=γ)
  (hloc:(scope.names.all λy=>y.2 != .local||scope.names.lookup y.1==Z .local)=γ)
  (hfree:(scope.names.all λy=>y.2 != .free||(X.a4.kindOf y.1==Z .cell||X.a4.kindOf y.1==Z .free))=γ)
  (hlen:B.length=k+d3.length) (hcap:(B.drop k).map Z=d3.map λj=>X.N[j]?)
  (hcf:((B.drop k).all λx=>scope.names.lookup x==Z .free)=γ)
  (hs:∀x,jb iter X.a4 x=pure x)
  (I:b0 X pins σ H s) (h:G3 wi g tt te k d3 σ H Q)
  (fin:∀a C m u s4 H3,s4.heap.Ns C m->b0 X pins σ H3 s4->KA X pins H3 C->Q (.ref a) H3->compPost (model X.prog X.w) X.A X.xe use P (.ref a) C (.ok u) s4):
  ao (model X.prog X.w) X.A (comprehension (.ListComp elt [#v[tg,iter,ifs,0]] scope pos) scope X.a4 (firstIterPos [#v[tg,iter,ifs,0]] pos) (newList []) δ (eval iter X.a4) use) P X.xe s:=by
 have hcell':∀y∈scope.names,y.2≠.cell:=λy M e=>by have z:=aH.1 hcell y M;rw[e]at z;exact aq z (by decide)
 have hloc':∀y∈scope.names,y.2=.local->scope.names.lookup y.1=Z .local:=λy M e=>by have z:=aH.1 hloc y M;rw[e]at z;simpa using z
 have hfree':∀y∈scope.names,y.2=.free->X.a4.kindOf y.1=Z .cell\/X.a4.kindOf y.1=Z .free:=λy M e=>by have z:=aH.1 hfree y M;rw[e]at z;simpa using z
 have hcl:=λy M e=>I.ok.has y.1 (hfree' y M e);refine wpAny_comprehension_free U hs (JB hcl) hkind hloc' (e3 (hi pins s σ H _ I h) λxv s₁ E=>e3 E λit l h₂=>?_);obtain⟨ita,fp,tn,J,H2,e,I2,T,st2,G,R2⟩:=h₂;subst e;obtain⟨W,⟨m0,w0⟩,turn⟩:=R2 l.heap.objs.size (I2.ew.fresh (aI _));refine d5 (wpAny_newFunctionEnv hcell' (by intro y M;simp at M) (λE hns₁ hsb₁=>?_) hkind);dsimp only at hns₁ hsb₁ ⊢;generalize hp:l.heap.push { cls:=.type "list", dict:=O,data:=.seq ([]:List ab).toArray }=hpL at hns₁ hsb₁ ⊢;have hsz:hpL.objs.size=l.heap.objs.size+1:=by rw[<-hp,c9]
 have t:b0 X pins σ (ef H2 l.heap.objs.size (.a3 [])) { l with heap:=hpL }:=by rw[<-hp];exact I2.laid (λb u e=>aT _ e) (aI _) #v[bR _,[],0,.nil,bA _ U]
 have old:=λb o e=>hsb₁.extBut b o (bj (bb e)) (aT _ e);have older:∀b o,l.heap.get? b=Z o->hpL.get? b=Z o:=λb o e=>by rw[<-hp];exact aT _ e
 have hfpS:=λb hb=>let #v[o,e,_]:=T.obj _ _ st2 b hb;bb e;have sub:=Mb scope.names [] hcl (λx c e=>by cases e);have R:(xJ X B scope (AK X.a4.cells scope.names) hpL.objs.size fp { l with heap:=hpL } (ef H2 l.heap.objs.size (.a3 []))).Ok:={
  w6:=t.ok.w6
  kind:=hkind
  vf:=t.ok.vf
  blt:=t.ok.blt
  above:=aI _
  inj:=λx y c h1 h2=>t.ok.inj x y c (sub x c h1) (sub y c h2)
  has:=λx F=>Ik scope.names [] x (NT hcell' F)
  cab:=λx c hf _=>aq (show δ=γ from hf) bH
  hd:=t.ok.hd
  frames:=t.ok.frames
  stk:=.inl U
  exf:=λb hb=>#v[(by
   rw[hsz];exact bj (fi (hfpS b hb))),λx c e=>(G b hb).2.2.2.2.1 x c (sub x c e)]
  bs:=t.bs
  Y?:=bz t.ok.Y? t.sz
  Q':=λb o e hb=>by
   rcases(G b hb).2.2.2.1 with z|z
   .exact t.ok.Q' b o e z
   .exact aq (cz (bb e) (bz t.ok.Y? z)) (fS _)
  Pr:=λb hb z=>(aM.1 (t.Gn b z)).elim (G b hb).2.1 (G b hb).2.2.1
  qq:=t.stack
  frf:=t.K3 }
 have IX:b0 (xJ X B scope (AK X.a4.cells scope.names) hpL.objs.size fp { l with heap:=hpL } (ef H2 l.heap.objs.size (.a3 []))) [] (zm k d3 σ) (ef H2 l.heap.objs.size (.a3 []))
   { l with heap:=E,toks:=l.toks+([]:List (Str×ab)).length }:={
  ok:=R
  os:=rfl
  i2:=t.i2
  a5:=Un.fh old
  A6:=#v[_,hns₁,λi x v e1 e2 _=>by
   obtain⟨j,hj,hσ,hm⟩:=QG hcap e1 e2;have F:=by simpa using aH.1 hcf x hm
   have hk:=hfree' (x,.free) (mem_of_lookup F) U;obtain⟨m,hn,hl⟩:=t.A6;obtain⟨u,r,lk⟩:=hl j x v hj hσ (hk.elim (λz=>.inr (.inl z)) λz=>.inr (.inr z));refine#v[u,r,.inr #v[JC F,?_]];rcases lk with ⟨z,_⟩|⟨_,c,e,o,ho,hd⟩
   .rcases hk with y|y
    .rw[y]at z;cases z
    .rw[y]at z;cases z
   .obtain⟨c',e'⟩:=Ik scope.names [] x (mem_of_lookup F);have ec:=sub x c' e';rw[e]at ec;have ec':=cW ec;subst ec';exact#v[c,e',o,old _ _ ho,hd]]
  cell:=λx c e=>by obtain⟨v,o,ho,hd⟩:=t.cell x c (sub x c e);exact#v[v,o,old _ _ ho,hd]
  free:=t.ew.fresh (aI _)
  kb:=λx c e=>t.kb x c (sub x c e)
  Dx:=λp hp=>aq (show p∈([]:cO) from hp) (by simp)
  ew:=t.ew.fh old
  len:=by
   show (zm k d3 σ).length=B.length;rw[hlen];unfold zm;rw[aA,c7,ae] }
 have stat:∀{H':Hp},(∀b∈fp,H' b=O)->∀b∈fp,KA (xJ X B scope (AK X.a4.cells scope.names) hpL.objs.size fp { l with heap:=hpL } (ef H2 l.heap.objs.size (.a3 []))) [] H' b:=λhn b hb=>#v[hn b hb,(R.exf b hb).1,R.Pr b hb,.inl hb,(R.exf b hb).2,λp hp=>aq (show p∈([]:cO) from hp) (by simp)]
 have st4:=T.keep _ _ _ st2 λb _ o e=>old b o (older b o e);have loop:cG (model X.prog X.w) X.A (.compLoop (.ListComp elt [#v[tg,iter,ifs,0]] scope pos) 0 (.ref ita) (.ref l.heap.objs.size) (compEnvC scope (AK X.a4.cells scope.names) hpL.objs.size X.a4))
   (compPost (model X.prog X.w) X.A X.xe use P (.ref l.heap.objs.size) hpL.objs.size) { l with heap:=E,toks:=l.toks+([]:List (Str×ab)).length }:=by
  refine KP (λn s'=>∃i acc H',b0 (xJ X B scope (AK X.a4.cells scope.names) hpL.objs.size fp { l with heap:=hpL } (ef H2 l.heap.objs.size (.a3 []))) [] (zm k d3 σ) H' s'/\tn i s'.heap/\(∀b∈fp,H' b=O)/\W i n acc H')
   ?_ m0 #v[0,[],_,IX,st4,λb hb=>?_,w0]
  .rintro n s3 ⟨i,acc,H3,I4,st3,fr3,w3⟩;rcases turn i n acc H3 w3 with ⟨stop,qn⟩|⟨go,step⟩
   .refine e3 (T.done (xJ X B scope (AK X.a4.cells scope.names) hpL.objs.size fp { l with heap:=hpL } (ef H2 l.heap.objs.size (.a3 []))) U U U hc i [] s3 _ H3 _ I4 (stat fr3) st3 stop) λr s4 zz=>?_;obtain⟨hr,Y⟩:=zz;subst hr;obtain⟨m,hn,_⟩:=id Y.A6;have A':=Y.a5;refine fin _ _ m _ _ _ hn (t.call' Y.os #v[λb o e n hb F=>A'.keep b o e n hb F,λb o e n hb F=>A'.slot b o e n hb F,A'.free,λb o e F=>A'.there b o e F,A'.tX,A'.vr,A'.zE] Y.ew Y.i2
     λb hb=>#v[(G b hb).2.2.2.1,(G b hb).2.1,(G b hb).2.2.2.2.1,(G b hb).2.2.2.2.2]) (t.Rn (aI _) Y.free) qn
   .refine e3 (T.item (xJ X B scope (AK X.a4.cells scope.names) hpL.objs.size fp { l with heap:=hpL } (ef H2 l.heap.objs.size (.a3 []))) U U U hc i [] s3 _ H3 _ I4 (stat fr3) st3 go) λr s4 zz=>?_;obtain⟨u,hr,h4⟩:=zz;subst hr;refine e3 h4 λ_ s5 zz=>?_;obtain⟨x,H5,Y,r5,y5,st5,fr5⟩:=zz;have I5':=Y.I' (stat fr5) (T.obj _ _ st5);have again:∀{H8:Hp} {s8:af} {S:St} {acc8:bF} {m':Nat},b0 (xJ X B scope (AK X.a4.cells scope.names) hpL.objs.size fp { l with heap:=hpL } (ef H2 l.heap.objs.size (.a3 []))) ([]++HW fp s5.heap) S H8 s8->S.drop k=(zm k d3 σ).drop k->m'<n->W (i+1) m' acc8 H8->
      ∃m,m<n/\∃i acc H',b0 (xJ X B scope (AK X.a4.cells scope.names) hpL.objs.size fp { l with heap:=hpL } (ef H2 l.heap.objs.size (.a3 []))) [] (zm k d3 σ) H' s8/\tn i s8.heap/\(∀b∈fp,H' b=O)/\W i m acc H':=λ{H8 s8 S acc8 m'} I8 hd8 hm8 w8=>by
     refine#v[m',hm8,i+1,acc8,H8,I8.mq.b? (IX.len.t I8.len.symm) (λj v e=>?_),T.keep _ _ _ st5 λb hb o e=>(I8.Dx (b,o) (bx _ (bx _ (AI hb e)))).1,λb hb=>?_,w8]
     .have hj:=JX e;have q:(S.drop k)[j - k]?=((zm k d3 σ).drop k)[j - k]?:=by rw[hd8]
      rw[eZ,eZ,show k+(j - k)=j by omega]at q;rw[q];exact e
     .obtain⟨o,e,d⟩:=T.obj _ _ st5 b hb;exact(I8.Dx (b,o) (bx _ (bx _ (AI hb e)))).2.1
    refine cA ((body _ _ _ _ _).1 _ s5 _ H5 x u _ I5' r5 (step x H5 y5)) (λ_ s6 h6=>?_) λ_ _ f=>f.elim;obtain⟨σ6,H6,I6,hd6,q6⟩:=h6;refine cA ((body _ _ _ _ _).2.1 _ s6 σ6 H6 _ I6 q6) (λb s7 h7=>?_) λ_ _ f=>f.elim;obtain⟨H7,I7,q7⟩:=h7;cases b with
    |false=>rw[ak bH]at q7;rw[ak bH];obtain⟨m',hm',w7⟩:=q7;exact again I7 hd6 hm' w7
    |true=>rw[aj U]at q7;rw[aj U];refine cA ((body _ _ _ _ _).2.2 _ s7 σ6 H7 _ I7 q7) (λyv s8 h8=>?_) λ_ _ f=>f.elim;obtain⟨y,H8,I8,r8,acc',hp8,hl8,m',hm',w8⟩:=h8;refine cA (Gi (X:=xJ X B scope (AK X.a4.cells scope.names) hpL.objs.size fp { l with heap:=hpL } (ef H2 l.heap.objs.size (.a3 []))) _ s8 σ6 H8 (.ref l.heap.objs.size) [y] (.ref l.heap.objs.size) [yv] (λ_ Hx=>Hx=ef H8 l.heap.objs.size (.a3 (acc'++[y]))) I8 U (.cons r8 .nil) #v[_,acc',y,U,U,hp8,hl8,U]) (λ_ s9 h9=>?_) λ_ _ f=>f.elim;obtain⟨_,H9,I9,_,e9⟩:=h9;subst e9;exact again I9 hd6 hm' w8
  .have z:=bj (hfpS b hb);rw[vM z];exact(G b hb).1
 exact codeAny_compStart_list loop (T.self _ 0 _ _ _ st4 loop)
def Wh{X:Cx}{d3:List Nat}
  (w:X.mi=γ) (z:PI X q iter J)
  (body:∀(f:List (Str×Addr)) (C:Addr) (i:List Addr) (s:af) (H:Hp),PG (xJ X c scope f C i s H) q g/\PIf (xJ X c scope f C i s H) ifs G/\PE (xJ X c scope f C i s H) elt F)
  (hkind:autoParam (scope.kind=.function) zA0._auto_1) (hcell:autoParam ((scope.names.all λy=>y.2 != .cell)=γ) zA0._auto_1)
  (hloc:autoParam ((scope.names.all λy=>y.2 != .local||scope.names.lookup y.1==Z .local)=γ) zA0._auto_1)
  (hfree:autoParam ((scope.names.all λy=>y.2 != .free||(X.a4.kindOf y.1==Z .cell||X.a4.kindOf y.1==Z .free))=γ) zA0._auto_1)
  (d:autoParam (c.length=k+d3.length) zA0._auto_1) (hcap:autoParam ((c.drop k).map Z=d3.map λj=>X.N[j]?) zA0._auto_1)
  (hcf:autoParam (((c.drop k).all λx=>scope.names.lookup x==Z .free)=γ) zA0._auto_1)
  (B:autoParam (∀x,jb iter X.a4 x=pure x) zA3._auto_1):
  PE X (.ListComp elt [#v[q,iter,ifs,0]] scope pos) (G3 J g G F k d3):=by
 intro p s R H Q I h;exact JY w z body hkind hcell hloc hfree d hcap hcf B I h λa C m u P r A z3 fpC E=>#v[m,A,λM l=>#v[.ref a,r,z3.ix (λb o t e=>(l.2 b t).t e) fpC.1 fpC.2.1 fpC.2.2.2.1 fpC.2.2.2.2.1 fpC.2.2.2.2.2,U,E]]
def Its(x:Str):It:=#v[λi t=>i<x.cps.size,λi H v a=>a=H/\∃c,x.cps[i]?=Z c/\v=.str #v[#[c]],λi t=>i=x.cps.size]
def aaf(hQ:Q () s):ao M A (jh a (.ref b) (.str c t)) Q E s:=by cases a<;>exact ar hQ
def Mc{K:aw}(it:Addr)(ty:String)(x:Str)(t:Tok)
  (hW:∀A:aR,A.handled=O->Walks P w A it [it] [it] x.cps.size (SignAt x) (λi h=>h.IsStrIter it ty x t i))
  (hS:∀(A:aR) (i:Nat) (s:af) (Q:ab->af->Prop) (E:ab->af->Prop),s.heap.IsStrIter it ty x t i->Q (.ref it) s->ao (model P w) A (pyIter (.ref it)) Q E s):
  P' P w K tg (Its x) [it] it (λi h=>h.IsStrIter it ty x t i) where
 mem:=by simp
 obj:=λi h st b hb=>by
  have e:=by simpa using hb
  subst e;obtain⟨o,e,c,d⟩:=st;exact#v[o,e,λv z=>by rw[d]at z;cases z]
 keep:=λi h h' st k=>by obtain⟨o,e,r⟩:=st;exact#v[o,k it (by simp) o e,r]
 item:=by intro X hP hw hK p i pins s σ H E I hf st hg;subst hP hw hK;obtain⟨a,f,F,j,l,m⟩:=hf it (by simp);refine(hW _ (I.ok.hd p)).item i s _ _ hg st λv h' tk G B y=>?_;obtain⟨c,J,q,rfl⟩:=G;have C:b0 X pins σ H { s with heap:=h',toks:=tk }:=I.ix (λb o hb e=>y b o (by simpa using hb) e) a f j l m;exact#v[_,U,aaf #v[.str #v[#[c]],H,C,#v[J,U],#v[U,c,q,U],B,λb hb=>(hf b hb).1]]
 done:=by intro X hP hw hK p i pins s σ H E I hf st hg;subst hP hw hK;obtain⟨a,f,F,j,l,m⟩:=hf it (by simp);have u:=hg;subst u;exact(hW _ (I.ok.hd p)).done s _ _ st λh' tk y=>#v[U,I.ix (λb o hb e=>y b o (by simpa using hb) e) a f j l m]
 self:=hS
section
variable{X:Cx}{tg:Expr}
def iStr(b:TE):TI:=λc H R=>b c H λv a=>∃x,v=.str x/\R (Its x) a
def aag(r:PE X l y):PI X tg l (iStr y):=by
 intro a s B H R I h;refine e3 (r a s B H _ I h) λv c zz=>?_;obtain⟨x,f,d,w,u⟩:=zz;obtain⟨z,e,q⟩:=u;subst e;obtain⟨t,rfl⟩:=w;have j:∀b∈[c.heap.objs.size],KA X a f b:=λb p=>by
  have e:=by simpa using p
  subst e;exact d.Rn (aI _) (d.ew.fresh (aI _))
 cases m:z.cps.all (· < 128)
 .refine wpAny_pyIter_wide m #v[c.heap.objs.size,[c.heap.objs.size],_,_,f,U,d.fh λb o e=>aT _ e,Mc _ "str_iterator" z t (λA hA=>Walks.strWide hA _ z t) (λA i s Q E st hQ=>wpAny_pyIter_striter_wide st hQ),#v[_,bA _ U,U,U],j,q]
 .refine wpAny_pyIter_ascii m #v[c.heap.objs.size,[c.heap.objs.size],_,_,f,U,d.fh λb o e=>aT _ e,Mc _ "str_ascii_iterator" z t (λA hA=>Walks.strAscii hA _ z t) (λA i s Q E st hQ=>wpAny_pyIter_striter_ascii st hQ),#v[_,bA _ U,U,U],j,q]
end
section
variable{X:Cx}
def QH:gi X (bD .LtE) (λx y H Q=>∃i j,x=.str i/\y=.str j/\Q (.X (!decide (j.cps.toList<i.cps.toList))) H):=by intro a s e H x y v u Q I b c h;obtain⟨i,j,rfl,rfl,q⟩:=h;obtain⟨t,rfl⟩:=b;obtain⟨d,rfl⟩:=c;exact PySem.P.le_str (wD I q U)
def Sx(y:X.mi=γ):xH X (.builtin "all") (λx H Q=>∃(p:Addr) (bs:List Bool),x=[.ref p]/\e8 X.K H p (bs.map V.X)/\Q (.X (bs.all id)) H):=by
 intro t s T H x S Q I r h;obtain⟨p,bs,rfl,E,q⟩:=h;obtain⟨u,rfl,l⟩:=j? r;cases l;obtain⟨j,w,pl,N⟩:=I.list E;have hlt:p<s.heap.objs.size:=by obtain⟨o,C,_⟩:=pl.isList;exact bb C
 have B:=by have:=w.length;rw[ae]at this;exact this
 refine call_all_walk (ig pl.isList #v[s.heap.objs.size,_,_,_,_,_,λi=>(bs[i]?).getD γ,U,js (show X.A.in1.handled=O from I.ok.hd y) _ p (bj hlt) j.toArray,#v[#v[_,bA _ U,U,U],?_],?_,λM R z=>?_])
 .exact pl.isList.at λo e=>aT _ e
 .intro i v P J G F hQ';have c:=by simpa using F
  have a:=(bY.1 c).1;have d:(bs.map V.X)[i]?=Z (.X (bs[i]'(by omega))):=by simp[show i<bs.length by omega]
  obtain⟨u,m,l⟩:=w.get d;rw[c]at m;cases m;cases l;refine dG ?_;have e:(bs[i]?).getD γ=bs[i]'(by omega):=by simp[show i<bs.length by omega]
  rw[<-e];exact hQ'
 .refine#v[.X (bs.all id),H,?_,?_,q]
  .exact I.fh λb o e=>z b o (by simp;exact bj (bb e)) (aT _ e)
  .show Value.bool _=Value.bool _;congr 1;rw[bp,<- B];rw[d6];simp only[aH,bB,id];constructor
   .intro f b d;obtain⟨i,a,rfl⟩:=lE.1 d;have:=f i a;simpa [a]using this
   .intro f i a;simp only[aO a,qz];exact f _ (fj a)
end
inductive Dq where
 |U|X (b:Bool)|int (i:Int)|str (x:Str)|a7 (ds:List Dq)|a3 (ds:List Dq)
mutual
def cm(K:aw)(H:Hp):Dq->V->Prop
 |.U,v=>v=.U
 |.X b,v=>v=.X b
 |.int i,v=>v=.int i
 |.str x,v=>v=.str x
 |.a7 d,v=>∃a c,v=.ref a/\e? K H a c/\a6 K H d c
 |.a3 d,v=>∃a c,v=.ref a/\e8 K H a c/\a6 K H d c
def a6(K:aw)(H:Hp):List Dq->bF->Prop
 |[],a=>a=[]
 |d::b,a=>∃v r,a=v::r/\cm K H d v/\a6 K H b r
end
mutual
def oz:Dq->Dq->Bool
 |.U,.U=>γ
 |.X a,.X b=>a==b
 |.X a,.int b=>(if a then 1 else 0)==b
 |.int a,.X b=>a==(if b then 1 else 0)
 |.int a,.int b=>a==b
 |.str a,.str b=>a==b
 |.a7 a,.a7 b=>Ej a b
 |.a3 a,.a3 b=>Ej a b
 |_,_=>δ
def Ej:List Dq->List Dq->Bool
 |[],[]=>γ
 |a::r,b::q=>oz a b&&Ej r q
 |_,_=>δ
end
mutual
def fc:Dq->Nat
 |.a7 a=>xf a+1
 |.a3 a=>xf a+1
 |_=>0
def xf:List Dq->Nat
 |[]=>0
 |d::r=>max (fc d) (xf r)
end
mutual
theorem DC:∀d:Dq,oz d d=γ
 |.U=>rfl
 |.X b=>beq_self_eq_true b
 |.int i=>beq_self_eq_true i
 |.str x=>beq_self_eq_true x
 |.a7 a=>Gj a
 |.a3 a=>Gj a
theorem Gj:∀a:List Dq,Ej a a=γ
 |[]=>rfl
 |d::r=>by show (oz d d&&Ej r r)=γ;rw[DC d,Gj r];rfl
end
theorem vH{K:aw}:∀{b:List Dq} {a:bF},a6 K H b a->b.length=a.length
 |[],a,h=>by subst h;rfl
 |d::b,a,h=>by obtain⟨v,r,rfl,_,c⟩:=h;rw[aU,aU,vH c]
def eAt(d c:List Dq)(j:Nat):Bool:=match d[j]?,c[j]? with
 |some a,Z b=>oz a b
 |_,_=>γ
theorem Il:∀(d c:List Dq),Ej d c=γ ↔ d.length=c.length/\∀j,j<d.length->eAt d c j=γ
 |[],[]=>by show γ=γ ↔ _;simp
 |[],b::q=>by show δ=γ ↔ _;simp
 |a::r,[]=>by show δ=γ ↔ _;simp
 |a::r,b::q=>by
  have l:=Il r q;show (oz a b&&Ej r q)=γ ↔ _;rw[aW,l,aU,aU];constructor
  .rintro⟨f,e,h⟩;refine#v[by omega,λj i=>?_];cases j with
   |zero=>exact f
   |succ j=>exact h j (by omega)
  .rintro⟨f,e⟩;exact#v[e 0 (by omega),by omega,λj i=>e (j+1) (by omega)]
def Cq{b a:List Dq}(l:b.length=n)(i:a.length=m):((aC (min n m)).all (eAt b a)&&n==m)=Ej b a:=by
 rw[d6,Il,aW,aH];subst l i;constructor
 .rintro⟨d,f⟩;have e:=by simpa using f
  exact#v[e,λj c=>d j (bB.2 (by omega))]
 .rintro⟨e,h⟩;exact#v[λj c=>h j (by have:=bB.1 c;omega),by simpa using e]
def DD{b a:List Dq}(d:b.length=n)(c:a.length=n):(aC n).all (eAt b a)=Ej b a:=by rw[<-Cq d c];simp
def Im{b a:List Dq}(h:b.length≠a.length):Ej b a=δ:=by
 cases e:Ej b a with
 |false=>rfl
 |true=>exact aq ((Il b a).1 e).1 h
section
variable{X:Cx}{pins:cO}{σ:St}{H:Hp}{s:af}
def Yz(I:b0 X pins σ H s)(h:e8 X.K H a f)(c:e? X.K H a i):False:=by obtain⟨d,_,p,_⟩:=I.list h;obtain⟨b,_,e,_⟩:=I.tuple c;exact SeqAt.ne_of_list_tuple p.isList (show s.heap.IsTuple a b.toArray from e) U
mutual
theorem Io(I:b0 X pins σ H s):∀(d i:Dq) (v:V),cm X.K H d v->cm X.K H i v->oz d i=γ
 |.U,i,v,h,c=>by subst h;cases i<;>first|rfl|(exact nomatch c)|(obtain⟨_,_,e,_⟩:=c;exact nomatch e)
 |.X b,i,v,h,c=>by subst h;cases i<;>first|(obtain⟨_,_,e,_⟩:=c;cases e)|(cases c<;>exact DC _)
 |.int b,i,v,h,c=>by subst h;cases i<;>first|(obtain⟨_,_,e,_⟩:=c;cases e)|(cases c<;>exact DC _)
 |.str b,i,v,h,c=>by subst h;cases i<;>first|(obtain⟨_,_,e,_⟩:=c;cases e)|(cases c<;>exact DC _)
 |.a7 q,i,v,h,c=>by
  obtain⟨a,u,rfl,o,t⟩:=h;cases i with
  |a7 j=>obtain⟨p,m,e,f,l⟩:=c;cases e;have r:=I.xo o f;subst r;exact Gk I q j u t l
  |a3 j=>obtain⟨p,m,e,f,l⟩:=c;cases e;exact(Yz I f o).elim
  |_=>exact nomatch (show _=_ from c)
 |.a3 q,i,v,h,c=>by
  obtain⟨a,u,rfl,o,t⟩:=h;cases i with
  |a3 j=>obtain⟨p,m,e,f,l⟩:=c;cases e;have r:=I.D4 o f;subst r;exact Gk I q j u t l
  |a7 j=>obtain⟨p,m,e,f,l⟩:=c;cases e;exact(Yz I o f).elim
  |_=>exact nomatch (show _=_ from c)
theorem Gk(I:b0 X pins σ H s):∀(b a:List Dq) (f:bF),a6 X.K H b f->a6 X.K H a f->Ej b a=γ
 |[],a,f,h,c=>by
  subst h;cases a with
  |nil=>rfl
  |cons d r=>obtain⟨_,_,e,_⟩:=c;exact nomatch e
 |d::b,a,f,h,c=>by
  obtain⟨v,r,rfl,o,p⟩:=h;cases a with
  |nil=>exact nomatch (show _=_ from c)
  |cons l m=>obtain⟨t,q,e,i,j⟩:=c;cases e;show (oz d l&&Ej b m)=γ;rw[Io I d l v o i,Gk I b m r p j];rfl
end
mutual
theorem Sy(I:b0 X pins σ H s):∀(d C:Dq) (x y:V) (u v:ab) (A:aR),cm X.K H d x->cm X.K H C y->dd x u->dd y v->A.units+fc d+fc C<cLine->jr A s u v (oz d C)
 |.a7 F,C,x,y,u,v,A,G,l,w,o,R=>by
  obtain⟨a,S,rfl,Q,M⟩:=G;cases w;obtain⟨J,P,p,_⟩:=I.tuple Q;cases C with
  |U=>unfold cm at l;subst l;cases o;exact uD p (by omega)
  |X b=>unfold cm at l;subst l;cases o;exact uE b p (by omega)
  |int b=>unfold cm at l;subst l;obtain⟨t,rfl⟩:=o;exact uN b t p (by omega)
  |str b=>unfold cm at l;subst l;obtain⟨t,rfl⟩:=o;exact uO b t p (by omega)
  |a3 i=>obtain⟨b,E,rfl,h,m⟩:=l;cases o;obtain⟨f,B,r,_⟩:=I.list h;exact uF p r.isList (by omega)
  |a7 i=>
   have N:=l;obtain⟨b,E,rfl,h,m⟩:=l;cases o;obtain⟨f,B,r,_⟩:=I.tuple h;by_cases hab:a=b
   .subst hab;have e:oz (.a7 F) (.a7 i)=γ:=Io I _ _ (.ref a) (by unfold cm;exact#v[a,S,U,Q,M]) N;rw[e];exact mJ _
   .have hd:fc (.a7 F)=xf F+1:=by rw[fc]
    have hd':fc (.a7 i)=xf i+1:=by rw[fc]
    have q:=vh (A:=A) p r (by omega) λj W Y=>by have z:=Cr I F i S E J f A.in1 M m P B (by show A.units+1+xf F+xf i<cLine;omega) j (by simpa using W) (by simpa using Y);simpa using z
    rw[Cq (by rw[vH M,P.length];simp) (by rw[vH m,B.length];simp)]at q;exact l5 hab q
 |.a3 F,C,x,y,u,v,A,G,l,w,o,R=>by
  obtain⟨a,S,rfl,Q,M⟩:=G;cases w;obtain⟨J,P,p,_⟩:=I.list Q;have p:=p.isList;cases C with
  |U=>unfold cm at l;subst l;cases o;exact uP p (by omega)
  |X b=>unfold cm at l;subst l;cases o;exact uQ b p (by omega)
  |int b=>unfold cm at l;subst l;obtain⟨t,rfl⟩:=o;exact uZ b t p (by omega)
  |str b=>unfold cm at l;subst l;obtain⟨t,rfl⟩:=o;exact u0 b t p (by omega)
  |a7 i=>obtain⟨b,E,rfl,h,m⟩:=l;cases o;obtain⟨f,B,r,_⟩:=I.tuple h;exact uG p (show s.heap.IsTuple b f.toArray from r) (by omega)
  |a3 i=>
   have N:=l;obtain⟨b,E,rfl,h,m⟩:=l;cases o;obtain⟨f,B,r,_⟩:=I.list h;have r:=r.isList;by_cases hab:a=b
   .subst hab;have e:oz (.a3 F) (.a3 i)=γ:=Io I _ _ (.ref a) (by unfold cm;exact#v[a,S,U,Q,M]) N;rw[e];exact mJ _
   .have hd:fc (.a3 F)=xf F+1:=by rw[fc]
    have hd':fc (.a3 i)=xf i+1:=by rw[fc]
    by_cases T:J.length=f.length
    .have q:=vn (A:=A) p r (by simpa using T) (by omega) λj W Y=>by have z:=Cr I F i S E J f A.in1 M m P B (by show A.units+1+xf F+xf i<cLine;omega) j (by simpa using W) (by simpa using Y);simpa using z
     rw[DD (by rw[vH M,P.length];simp) (by rw[vH m,B.length,<- T];simp)]at q;exact l5 hab q
    .have e:oz (.a3 F) (.a3 i)=δ:=by exact Im (by rw[vH M,vH m,P.length,B.length];exact T)
     rw[e];exact l5 hab (uy p r (by simpa using T) (by omega))
 |.U,C,x,y,u,v,A,G,l,w,o,R=>by
  subst G;cases C with
  |a7 i=>obtain⟨b,E,rfl,h,m⟩:=l;cases o;cases w;obtain⟨f,B,r,_⟩:=I.tuple h;exact uH (show s.heap.IsTuple b f.toArray from r) (by omega)
  |a3 i=>obtain⟨b,E,rfl,h,m⟩:=l;cases o;cases w;obtain⟨f,B,r,_⟩:=I.list h;exact uR r.isList (by omega)
  |_=>unfold cm at l;subst l;exact Ib w o U U
 |.X c,C,x,y,u,v,A,G,l,w,o,R=>by
  subst G;cases C with
  |a7 i=>obtain⟨b,E,rfl,h,m⟩:=l;cases o;cases w;obtain⟨f,B,r,_⟩:=I.tuple h;exact uI c (show s.heap.IsTuple b f.toArray from r) (by omega)
  |a3 i=>obtain⟨b,E,rfl,h,m⟩:=l;cases o;cases w;obtain⟨f,B,r,_⟩:=I.list h;exact uS c r.isList (by omega)
  |_=>unfold cm at l;subst l;exact Ib w o U U
 |.int c,C,x,y,u,v,A,G,l,w,o,R=>by
  subst G;cases C with
  |a7 i=>obtain⟨b,E,rfl,h,m⟩:=l;cases o;obtain⟨t,rfl⟩:=w;obtain⟨f,B,r,_⟩:=I.tuple h;exact uT c t (show s.heap.IsTuple b f.toArray from r) (by omega)
  |a3 i=>obtain⟨b,E,rfl,h,m⟩:=l;cases o;obtain⟨t,rfl⟩:=w;obtain⟨f,B,r,_⟩:=I.list h;exact u4 c t r.isList (by omega)
  |_=>unfold cm at l;subst l;exact Ib w o U U
 |.str c,C,x,y,u,v,A,G,l,w,o,R=>by
  subst G;cases C with
  |a7 i=>obtain⟨b,E,rfl,h,m⟩:=l;cases o;obtain⟨t,rfl⟩:=w;obtain⟨f,B,r,_⟩:=I.tuple h;exact uU c t (show s.heap.IsTuple b f.toArray from r) (by omega)
  |a3 i=>obtain⟨b,E,rfl,h,m⟩:=l;cases o;obtain⟨t,rfl⟩:=w;obtain⟨f,B,r,_⟩:=I.list h;exact u5 c t r.isList (by omega)
  |_=>unfold cm at l;subst l;exact Ib w o U U
theorem Cr(I:b0 X pins σ H s):∀(b a:List Dq) (f h:bF) (c e:List ab) (A:aR),a6 X.K H b f->a6 X.K H a h->c6 f c->c6 h e->A.units+xf b+xf a<cLine->
  ∀(j:Nat) (i:j<c.length) (l:j<e.length),jr A s c[j] e[j] (eAt b a j)
 |[],a,f,h,c,e,A,m,o,p,q,B,j,i,l=>by
  have:=vH m;have:=p.length;simp only[dD]at *
  omega
 |d::b,[],f,h,c,e,A,m,o,p,q,B,j,i,l=>by
  have:=vH o;have:=q.length;simp only[dD]at *
  omega
 |d::b,r::a,f,h,c,e,A,m,o,p,q,B,j,i,l=>by
  obtain⟨x,J,rfl,t,u⟩:=m;obtain⟨y,M,rfl,w,z⟩:=o;have N:xf (d::b)=max (fc d) (xf b):=by rw[xf]
  have P:xf (r::a)=max (fc r) (xf a):=by rw[xf]
  cases p with
  |cons F G=>
   cases q with
   |cons C E=>
    cases j with
    |zero=>exact Sy I d r x y _ _ A t w F C (by omega)
    |succ j=>exact Cr I b a J M _ _ A u z G E (by omega) j (by simpa using i) (by simpa using l)
end
def O1:Dq->Dq->Bool
 |.a7 _,.a7 _=>γ
 |.a3 _,.a3 _=>γ
 |_,_=>δ
def NU(K:aw)(neg:Bool):R2:=λx y H Q=>∃d a,cm K H d x/\cm K H a y/\O1 d a=γ/\fc d<=20/\fc a<=20/\Q (.X (if neg then !oz d a else oz d a)) H
def aah(hu:X.A.units+64<cLine):gi X (bD .Eq) (NU X.K δ):=by
 intro pins s σ H x y u v Q I W Y h;obtain⟨d,R,S,T,hd,B,C,q⟩:=h;cases d with
 |a7 i=>
  cases R with
  |a7 c=>
   have G:fc (.a7 i)=xf i+1:=by rw[fc]
   have J:fc (.a7 c)=xf c+1:=by rw[fc]
   obtain⟨a,N,rfl,M,r⟩:=S;obtain⟨b,P,rfl,o,l⟩:=T;cases W;cases Y;obtain⟨m,t,p,_⟩:=I.tuple M;obtain⟨f,w,F,_⟩:=I.tuple o;refine SeqAt.eq_tupleAt (e:=eAt i c) (show s.heap.IsTuple a m.toArray from p) (show s.heap.IsTuple b f.toArray from F) (by omega) (λj B C=>?_) ?_
   .have z:=Cr I i c N P m f X.A.in1 r l t w (by show X.A.units+1+xf i+xf c<cLine;omega) j (by simpa using B) (by simpa using C);simpa using z
   .rw[Cq (by rw[vH r,t.length];simp) (by rw[vH l,w.length];simp)];exact wD I q U
  |_=>exact nomatch hd
 |a3 i=>
  cases R with
  |a3 c=>
   have G:fc (.a3 i)=xf i+1:=by rw[fc]
   have J:fc (.a3 c)=xf c+1:=by rw[fc]
   obtain⟨a,N,rfl,M,r⟩:=S;obtain⟨b,P,rfl,o,l⟩:=T;cases W;cases Y;obtain⟨m,t,p,_⟩:=I.list M;obtain⟨f,w,F,_⟩:=I.list o;by_cases E:m.length=f.length
   .refine SeqAt.eq_listAt (e:=eAt i c) p.isList F.isList (by simpa using E) (by omega) (λj B C=>?_) ?_
    .have z:=Cr I i c N P m f X.A.in1 r l t w (by show X.A.units+1+xf i+xf c<cLine;omega) j (by simpa using B) (by simpa using C);simpa using z
    .rw[DD (by rw[vH r,t.length];simp) (by rw[vH l,w.length,<- E];simp)];exact wD I q U
   .refine oP p.isList F.isList (by simpa using E) (by omega) ?_;have e:Ej i c=δ:=Im (by rw[vH r,vH l,t.length,w.length];exact E);rw[show oz (.a3 i) (.a3 c)=δ from e]at q;exact wD I q U
  |_=>exact nomatch hd
 |_=>exact nomatch hd
def aai(hu:X.A.units+64<cLine):gi X (bD .NotEq) (NU X.K γ):=by
 intro pins s σ H x y u v Q I Y rv h;obtain⟨d,S,T,W,hd,C,E,q⟩:=h;cases d with
 |a7 l=>
  cases S with
  |a7 c=>
   have J:fc (.a7 l)=xf l+1:=by rw[fc]
   have M:fc (.a7 c)=xf c+1:=by rw[fc]
   obtain⟨a,P,rfl,N,r⟩:=T;obtain⟨b,R,rfl,o,i⟩:=W;cases Y;cases rv;obtain⟨m,t,p,_⟩:=I.tuple N;obtain⟨f,B,G,_⟩:=I.tuple o;have w:=u6 (A:=X.A) (show s.heap.IsTuple a m.toArray from p) (show s.heap.IsTuple b f.toArray from G) (by omega) (λj C E=>by
    have z:=Cr I l c P R m f X.A.in1 r i t B (by show X.A.units+1+xf l+xf c<cLine;omega) j (by simpa using C) (by simpa using E);simpa using z)
   rw[Cq (by rw[vH r,t.length];simp) (by rw[vH i,B.length];simp)]at w;exact w X.prog X.w X.xe _ (wD I q U)
  |_=>exact nomatch hd
 |a3 l=>
  cases S with
  |a3 c=>
   have J:fc (.a3 l)=xf l+1:=by rw[fc]
   have M:fc (.a3 c)=xf c+1:=by rw[fc]
   obtain⟨a,P,rfl,N,r⟩:=T;obtain⟨b,R,rfl,o,i⟩:=W;cases Y;cases rv;obtain⟨m,t,p,_⟩:=I.list N;obtain⟨f,B,G,_⟩:=I.list o;by_cases F:m.length=f.length
   .have w:=vc (A:=X.A) p.isList G.isList (by simpa using F) (by omega) (λj C E=>by
     have z:=Cr I l c P R m f X.A.in1 r i t B (by show X.A.units+1+xf l+xf c<cLine;omega) j (by simpa using C) (by simpa using E);simpa using z)
    rw[DD (by rw[vH r,t.length];simp) (by rw[vH i,B.length,<- F];simp)]at w;exact w X.prog X.w X.xe _ (wD I q U)
   .have e:Ej l c=δ:=Im (by rw[vH r,vH i,t.length,B.length];exact F);rw[show oz (.a3 l) (.a3 c)=δ from e]at q;exact tU p.isList G.isList (by simpa using F) (by omega) X.prog X.w X.xe _ (wD I q U)
  |_=>exact nomatch hd
 |_=>exact nomatch hd
end
inductive Bh:List Expr->bF->Prop
 |nil:Bh [] []
 |cons {x:Str} {j:Nat} {pos:Pos} {es:List Expr} {vs:bF} (h:Bh es vs):Bh (.Constant (.str x) j pos::es) (.str x::vs)
def y9(h:n<=1000):n<=aJ:=iz (BZ h)
def vX.new(x:vX H a)(c:a p=O)(o:HO):vX H (ef a p o):=λb u e=>by have z:=x b u e;rw[vM (yA z c)];exact z
structure QI(K:aw)(x qual:Str)(st:Stmt)(f:Addr)(fd:cn)(T:Addr):Prop where
 ex:∃(oc:ab) (od:Option Addr) (kV doc pm:ab) (an:Option Addr) (cdv ct:ab) (osl:Array (Option ab)),
  fd=fH x qual (zl st) (wM st) (v8 st) (.ref T) kV doc pm an cdv ct/\K.lookup f=Z #v[oc,od,.func fd,osl]/\iK K cdv qual=γ
 kp:eG K (.ref f)=γ
section
variable{P:aL}{w:aE}{K:aw}{mg:Str->Option ab}{a5:Heap}
theorem QI.ok{st:Stmt}(F:QI K x qual st f d T)(S:yJ N ps (v8 st))(len:∀a H Q E,b a H Q E->a.length=ps.length)
  (hbody:∀(cdv:ab) (A:aR) (b4:List Env) (s:af) (H:Hp) (a:bF) (Q:VK) (E:XK),ye k (A.deeper (envOfC qual (v8 st) s.heap.objs.size f cdv))->b a H Q E->
   ∃t,m? (LW x? P w K mg a5 N qual (v8 st) f cdv A b4 s H E).nox (wM st) t/\t { nx:=λ_ c=>Q .U c,rt:=Q } (L2.start N a) H):zI P w K mg a5 x? (k+1) f d ps b:=by
 obtain⟨l,m,kV,doc,pm,i,cdv,j,osl,rfl,lk,hcd⟩:=F.ex;refine Yo lk hcd S len λA b4 s H a Q E e hsp=>?_;obtain⟨t,h,q⟩:=hbody cdv A b4 s H a Q E e hsp;exact#v[t,h.nox,q]
end
theorem QI.p0{K:aw}{st:Stmt}{e:aB}{d:List ab}(F:QI K x qual st f i T)(p:K.lookup T=Z o)(q:o.data=.seq items n)
  (h:∀(kV doc pm:ab) (b:Option Addr) (cdv c:ab) (a:List ab),a.length=e.length - d.length->∃k,bindArgs (fH x qual (zl st) (wM st) (v8 st) (.ref T) kV doc pm b cdv c) #v[a,[]]=seqItems? (.ref T)>>=k/\k (Z items)=pure (e.zip (a++d))):i? K i e d:=by
 obtain⟨r,t,kV,doc,pm,b,cdv,c,osl,rfl,lk,hcd⟩:=F.ex;intro s a KX m;obtain⟨k,j,l⟩:=h kV doc pm b cdv c a (by rw[aA]at m;omega);exact BindsTo.of_defaults U (KX _ _ p) q j l
section
variable{X:Cx}
def NV:gi X (cK .Mult) (λx y H Q=>∃z n,x=.str z/\y=.int n/\MulOk z n/\Q (.str (fF z n)) H):=by intro a s i H x y v u Q I c d h;obtain⟨z,n,rfl,rfl,b,q⟩:=h;obtain⟨t,rfl⟩:=c;obtain⟨f,rfl⟩:=d;exact SB.mul b λe k=>#v[.str _,H,I.ri _,#v[e,U],q]
theorem En:∀(tk:Nat) (a:aB),c6 (a.map V.str) (strValues (numbered tk a))
 |_,[]=>.nil
 |tk,x::r=>.cons #v[tk,U] (En (tk+1) r)
def SA:MtR X "str.split" (λx vs H Q=>∃z y:Str,x=.str z/\vs=[.str y]/\(y.length==0)=δ/\z.length+2<=aJ/\∀l,H l=O->Q (.ref l) (ef H l (.a3 ((cY z y).map V.str)))):=by
 intro pins s σ H x vs v us Q I j i h;obtain⟨z,y,rfl,rfl,c,m,q⟩:=h;obtain⟨t,rfl⟩:=j;obtain⟨u,rfl,f⟩:=i.one;obtain⟨b,rfl⟩:=f;have hle:=qU z y;have itself:∀(e:cY z y=[z]),EP X pins σ Q (.ref s.heap.objs.size) { s with heap:=s.heap.push { cls:=.type "list", data:=.seq [Value.str z t].toArray } }:=λe=>by have a:=q s.heap.objs.size (I.ew.fresh (aI _));rw[e]at a;exact#v[.ref _,_,I.lnew (t':=s.toks) (ys:=[V.str z]) (its:=[Value.str z t]) (.cons #v[t,U] .nil) (by show 1<=aJ;decide),U,a]
 cases h1:(decide (z.length<y.length)||decide (pE z<pE y))
 .cases hf:(oQ z y 0 z.length (z.length+1)).isEmpty
  .have e:cY z y=uz z (oQ z y 0 z.length (z.length+1)) y.length:=by unfold cY;rw[h1,hf];rfl
   refine fX j3 (jq _ _ _) mx (l7 _ _) (meets_str_split_sep z y t b h1 c hf (by omega) (by rw[<-e];omega)) ?_;have a:=q s.heap.objs.size (I.ew.fresh (aI _));rw[<-e,strsFrom_eq];exact#v[.ref _,_,I.lnew (En s.toks (cY z y)) (by rw[ae];omega),U,a]
  .refine fX j3 (jq _ _ _) mx (l7 _ _) (meets_str_split_not_found z y t b h1 c hf) (itself ?_);unfold cY;rw[h1,hf];rfl
 .refine fX j3 (jq _ _ _) mx (l7 _ _) (meets_str_split_cannot_occur z y t b h1) (itself ?_);unfold cY;rw[h1];rfl
end
section
variable{X:Cx}(K:aw)
set_option r "Mg RU VR;Wi Zx Zy" in def ϑ0(a:PE X l b)(hK:X.K=K:=by rfl):PI X c l (ϑ1 K b):=by subst hK;exact ϑ2 a
def Wj(b:X.mi=γ)(h:G' X a t)(c:autoParam ((de a X.a4).length=n) zA0._auto_1)(hst:autoParam ((de a X.a4).findIdx? (·.1)=O) zA0._auto_1)(hK:autoParam (X.K=K) zA0._auto_1):PG X (.Tuple a k pos) (Zt K n t):=by subst hK;exact Zu b h c hst
variable{o e:Expr}{es:List Expr}{to:TE}{t:TA}{name:Str}{apos cpos:Pos}{T id:String}{r:V->bF->Hp->VK->Prop}
def NW(f:ku T)(slot:Slot T name id)(hty:typeOf (.builtin id)=pure (.type "method_descriptor"))(b:MtR X id r)(c:PE X o to)(a:PA X (e::es) t)
  (hbase:autoParam (fA o name X.a4 (eval o X.a4)=eval o X.a4) zA0._auto_1)
  (hfew:autoParam (((bO cpos (aF (e::es) X.a4)).all (λx=>!x.1)&&(backToKw cpos (dP [] X.a4)).all (λx=>x.1.isSome)
   && decide ((e::es).length+([]:List eJ).length+(if ([]:List eJ).isEmpty then 0 else 1)<30))=γ) zA0._auto_1)
  (hline:autoParam ((apos.endLine==cpos.line)=γ) zA0._auto_1) (d:autoParam (aF (e::es) X.a4=(δ,eval e X.a4)::aF es X.a4) zA0._auto_1) (hplain:autoParam ((bO cpos (aF es X.a4)).any (·.1)=δ) zA0._auto_1) (hK:autoParam (X.K=K) zA0._auto_1):
  PE X (.Call (.Attribute o name apos) (e::es) [] cpos) (tBM K T r to t):=by subst hK;exact adM f slot hty b c a hbase hfew hline d hplain
end
end L3
namespace L2
open PySem PySem.Spec PyProof.Rows
section
variable{X:Cx}{pins:cO}{σ:St}{H:Hp}{s:af}
def B2(e:H a=Z u)(q:H c=Z v)(d:u≠v)(n:HO):ef H a n c=Z v:=by rw[vM (λz=>by subst z;rw[e]at q;exact d (cW q))];exact q
def b0.p5(I:b0 X pins σ H s)(e:H a=Z (.dK kvs)):∃o,b0 X pins σ (ef H a (.mr o (.dK kvs))) s:=by
 obtain⟨z,y,P,r,f,F,E,l,c⟩:=(show en X.prog X.w H s.heap a (.dK kvs) from I.ew a _ e);refine#v[f,?_];have j:=I.step (H':=ef H a (.mr f (.dK kvs))) (h':=s.heap) (g':=s.gens) (d':=s.drawn) (t':=s.toks) (ch:=[]) (λ_ z=>nomatch z) (λb o _ _ _ q _=>q) (λb o _ _ _ q _=>#v[o.slots,q])
  (λb o _ _ n=>by rw[vM (λz=>by subst z;rw[e]at n;cases n)];exact n) (λb o _ q=>#v[o,q]) (λb p q=>B2 e q (λz=>nomatch z) _) (λb o u q=>B2 e q (λz=>nomatch z) _)
  (λb M q=>#v[#[],by rw[B2 e q (λz=>nomatch z) _];simp]) (λm q=>q) ?_ I.i2
 .obtain⟨h,g,d,t,os⟩:=s;exact j
 .intro b u q;have st:∀{b:Addr} {u:HO},en X.prog X.w H s.heap b u->en X.prog X.w (ef H a (.mr f (.dK kvs))) s.heap b u:=λ{b u} x=>x.S2 (λ_ _ _ q=>q) (λc q=>B2 e q (λz=>nomatch z) _) λc p q=>B2 e q (λz=>nomatch z) _
  by_cases i:b=a
  .subst i;rw[vI]at q;cases q;exact#v[l,st (I.ew b _ e)]
  .rw[vM i]at q;exact st (I.ew b u q)
def PE.ZY(h:PE X e t):PE X e (λσ H Q=>t σ H λx b=>Q x b\/∃a kvs,b a=Z (.dK kvs)/\∀o,Q x (ef b a (.mr o (.dK kvs)))):=λpins s σ H Q I i=>
 e3 (h pins s σ H _ I i) λu l #v[x,b,c,d,j]=>by
  rcases j with q|⟨a,kvs,e,q⟩
  .exact#v[x,b,c,d,q]
  .obtain⟨o,f⟩:=c.p5 e;exact#v[x,_,f,d,q o]
end
end L2
namespace L4
open PySem PySem.Spec PyProof.Rows L2 L3
abbrev St:=L2.St
inductive D where
 |U|X (b:Bool)|int (i:Int)|str (x:Str)
 |a7 (ds:List D)|a3 (ds:List D)
 |nq (ds:List D)
 |obj (c:Nat) (ns:aB) (ds:List D)
 |i0 (ks:List d?) (ds:List D)
 |Z' (ks:List (List d?)) (ds:List D)
abbrev br:=List D
structure Bg where
 K:aw
 ca:Nat->Addr
 hs:List d?->Int
def isO(a:Addr)(o:Obj):Heap->Prop:=λh=>h.get? a=Z o
structure DtE(hs:List d?->Int)(o:Obj)(qs:List (List d?×Addr×ab)):Prop where
 ex:o.ExactDict
 da:∃es ep,o.data=.dict es ep/\es.toList=qs.map λq=>#v[hs q.1,.ref q.2.1,q.2.2]
 nd:(qs.map (·.1)).Nodup
 sz:qs.length<=1000
def DtO(G:Bg)(H:Hp)(a:Addr)(c:List (List d?))(d:bF):Prop:=∃(o:Obj) (b:List (List d?×Addr×ab)),H a=Z (.ext (isO a o))/\(a==dE)=δ/\DtE G.hs o b/\b.map (·.1)=c/\(∀q∈b,e? G.K H q.2.1 (q.1.map kV))/\c6 d (b.map (·.2.2))
mutual
def cm(G:Bg)(H:Hp):D->V->Prop
 |.U,v=>v=.U
 |.X b,v=>v=.X b
 |.int i,v=>v=.int i
 |.str x,v=>v=.str x
 |.a7 e,v=>∃a d,v=.ref a/\e? G.K H a d/\a6 G H e d
 |.a3 e,v=>∃a d,v=.ref a/\H a=Z (.a3 d)/\a6 G H e d
 |.nq e,v=>∃a d,v=.ref a/\e8 G.K H a d/\a6 G H e d
 |.obj c h e,v=>∃a j d,v=.ref a/\H a=Z (.ke (G.ca c) j (h.zip d))/\h.length=d.length/\a6 G H e d
 |.i0 f e,v=>∃a o d,v=.ref a/\H a=Z (.mr o (.dK (f.zip d)))/\f.length=d.length/\a6 G H e d
 |.Z' f e,v=>∃a d,v=.ref a/\DtO G H a f d/\a6 G H e d
def a6(G:Bg)(H:Hp):br->bF->Prop
 |[],a=>a=[]
 |d::b,a=>∃v r,a=v::r/\cm G H d v/\a6 G H b r
end
def e?.mono{K:aw}{H b:Hp}{a:Addr}{c:bF}(e:vX H b)(h:e? K H a c):e? K b a c:=by
 rcases h with (h|⟨o,h⟩)|h
 .exact .inl (.inl (e _ _ h))
 .exact .inl (.inr #v[o,e _ _ h])
 .exact .inr h
theorem DtO.mono{G:Bg}{H b:Hp}{a:Addr}{ks:List (List d?)}{c:bF}(e:vX H b)(h:DtO G H a ks c):DtO G b a ks c:=by obtain⟨o,r,d,f,i,j,l,m⟩:=h;exact#v[o,r,e _ _ d,f,i,j,λq p=>e?.mono e (l q p),m]
mutual
theorem cm.mono{G:Bg}{H q:Hp}(e:vX H q):∀(d:D) (v:V),cm G H d v->cm G q d v
 |.U,v,h=>by unfold cm at h ⊢;exact h
 |.X b,v,h=>by unfold cm at h ⊢;exact h
 |.int i,v,h=>by unfold cm at h ⊢;exact h
 |.str x,v,h=>by unfold cm at h ⊢;exact h
 |.a7 j,v,h=>by obtain⟨a,f,rfl,l,m⟩:=h;exact#v[a,f,U,e?.mono e l,a6.mono e j f m]
 |.a3 j,v,h=>by obtain⟨a,f,rfl,l,m⟩:=h;exact#v[a,f,U,e _ _ l,a6.mono e j f m]
 |.nq j,v,h=>by obtain⟨a,f,rfl,l,m⟩:=h;exact#v[a,f,U,e.seq l,a6.mono e j f m]
 |.obj c u j,v,h=>by obtain⟨a,r,f,rfl,l,m,p⟩:=h;exact#v[a,r,f,U,e _ _ l,m,a6.mono e j f p]
 |.i0 t j,v,h=>by obtain⟨a,o,f,rfl,l,m,p⟩:=h;exact#v[a,o,f,U,e _ _ l,m,a6.mono e j f p]
 |.Z' t j,v,h=>by obtain⟨a,f,rfl,l,m⟩:=h;exact#v[a,f,U,l.mono e,a6.mono e j f m]
theorem a6.mono{G:Bg}{H c:Hp}(e:vX H c):∀(a:br) (b:bF),a6 G H a b->a6 G c a b
 |[],b,h=>by unfold a6 at h ⊢;exact h
 |d::a,b,h=>by obtain⟨v,r,rfl,f,i⟩:=h;exact#v[v,r,U,cm.mono e d v f,a6.mono e a r i]
end
section
variable{G:Bg}{H:Hp}
def wC:a6 G H [] []:=by unfold a6;rfl
def wJ{d:D}{v:V}{b:br}{a:bF}(h:cm G H d v)(r:a6 G H b a):a6 G H (d::b) (v::a):=by unfold a6;exact#v[v,a,U,h,r]
theorem vH:∀{b:br} {a:bF},a6 G H b a->b.length=a.length
 |[],a,h=>by unfold a6 at h;subst h;rfl
 |d::b,a,h=>by obtain⟨v,r,rfl,_,c⟩:=h;rw[aU,aU,vH c]
theorem xN:∀{e a:br} {b c:bF},a6 G H e b->a6 G H a c->a6 G H (e++a) (b++c)
 |[],a,b,c,h,f=>by unfold a6 at h;subst h;exact f
 |d::e,a,b,c,h,f=>by obtain⟨v,r,rfl,i,j⟩:=h;exact wJ i (xN j f)
theorem AL:∀{b:br} {a:bF} {i:Nat} {d:D},a6 G H b a->b[i]?=Z d->∃v,a[i]?=Z v/\cm G H d v
 |[],a,i,d,h,e=>by simp at e
 |j::b,a,i,d,h,e=>by
  obtain⟨v,r,rfl,c,f⟩:=h;cases i with
  |zero=>simp at e;subst e;exact#v[v,U,c]
  |succ i=>simpa using AL f (by simpa using e)
theorem Gm:∀{ds:br} {a:bF} (n:Nat),a6 G H ds a->a6 G H (ds.drop n) (a.drop n)
 |ds,a,0,h=>h
 |[],a,n+1,h=>by unfold a6 at h;subst h;exact wC
 |d::ds,a,n+1,h=>by obtain⟨v,r,rfl,c,b⟩:=h;exact Gm n b
theorem Gp:∀{ds:br} {a:bF} (n:Nat),a6 G H ds a->a6 G H (ds.take n) (a.take n)
 |ds,a,0,h=>wC
 |[],a,n+1,h=>by unfold a6 at h;subst h;exact wC
 |d::ds,a,n+1,h=>by obtain⟨v,r,rfl,b,c⟩:=h;exact wJ b (Gp n c)
def D7{a:Addr}{b:bF}{c:br}(h:e? G.K H a b)(r:a6 G H c b):cm G H (.a7 c) (.ref a):=by unfold cm;exact#v[a,b,U,h,r]
def D8{a:Addr}{b:bF}{c:br}(h:H a=Z (.a3 b))(r:a6 G H c b):cm G H (.a3 c) (.ref a):=by unfold cm;exact#v[a,b,U,h,r]
set_option r "yf Int int;yw Bool X;Aj Str str" in def ϑ0(i:ϑ1):cm G H (.ϑ2 i) (.ϑ2 i):=by unfold cm;rfl
def Ak:cm G H .U .U:=by unfold cm;rfl
end
inductive Sl where
 |un
 |I (d:D)
 |Y (ds:br)
 |pm (ds:br)
 |dk (ks:List d?) (ds:br)
 |ob (c:Nat) (ns:aB) (ds:br)
abbrev bc:=List Sl
def Sl.f5:Sl->Bool
 |.Y _=>γ
 |.pm _=>γ
 |.dk _ _=>γ
 |.ob _ _ _=>γ
 |_=>δ
structure Fr where
 B0:Hp
 B:Hp
 A:List Addr
def EG(G:Bg)(F:Fr)(e H:Hp)(o:Option V):Sl->Prop
 |.un=>True
 |.I d=>∃v,o=Z v/\cm G e d v
 |.Y f=>∃a b,o=Z (.ref a)/\H a=Z (.a3 b)/\e a=O/\F.B a=O/\a6 G e f b
 |.pm f=>∃a b,o=Z (.ref a)/\H a=Z (.a3 b)/\e a=O/\a∈F.A/\a6 G e f b
 |.dk h f=>∃a b,o=Z (.ref a)/\H a=Z (.dK (h.zip b))/\e a=O/\F.B a=O/\h.length=b.length/\a6 G e f b
 |.ob c i f=>∃a j b,o=Z (.ref a)/\H a=Z (.ke (G.ca c) j (i.zip b))/\e a=O/\a∈F.A/\i.length=b.length/\a6 G e f b
structure bt(G:Bg)(F:Fr)(σ:St)(ρ:bc)(H0 H:Hp):Prop where
 sub:vX H0 H
 g0:vX F.B0 H0
 keep:∀b o,F.B b=Z o->b∉F.A->H b=Z o
 fr:∀b o,H0 b=Z o->F.B0 b=Z o\/F.B b=O
 am:∀a∈F.A,∃o,H a=Z o
 len:σ.length=ρ.length
 sl:∀(i:Nat) (s:Sl),ρ[i]?=Z s->EG G F H0 H (σ[i]?).join s
 ap:∀(i j:Nat) (s t:Sl) (a:Addr),i≠j->ρ[i]?=Z s->ρ[j]?=Z t->s.f5=γ->t.f5=γ->(σ[i]?).join=Z (.ref a)->(σ[j]?).join=Z (.ref a)->False
theorem EG.at{G:Bg}{F:Fr}{p H:Hp}{o:Option V}{s:Sl}(h:EG G F p H o s)(e:s.f5=γ):∃a u,o=Z (.ref a)/\H a=Z u/\p a=O/\(F.B a=O\/a∈F.A):=by
 cases s with
 |un=>cases e
 |I d=>cases e
 |Y l=>obtain⟨a,m,b,f,i,j,_⟩:=h;exact#v[a,_,b,f,i,.inl j]
 |pm l=>obtain⟨a,m,b,f,i,j,_⟩:=h;exact#v[a,_,b,f,i,.inr j]
 |dk r l=>obtain⟨a,m,b,f,i,j,_⟩:=h;exact#v[a,_,b,f,i,.inl j]
 |ob c t l=>obtain⟨a,q,m,b,f,i,j,_⟩:=h;exact#v[a,_,b,f,i,.inr j]
def EG.fx{G:Bg}{F:Fr}{t H f y:Hp}{o:Option V}{s:Sl}(h:EG G F t H o s)(p:vX t f)(q:∀a u,o=Z (.ref a)->s.f5=γ->H a=Z u->y a=Z u)
  (r:∀a u,o=Z (.ref a)->s.f5=γ->H a=Z u->t a=O->f a=O):EG G F f y o s:=by
 cases s with
 |un=>trivial
 |I d=>obtain⟨v,b,e⟩:=h;exact#v[v,b,cm.mono p _ _ e]
 |Y w=>obtain⟨a,m,b,e,i,j,l⟩:=h;exact#v[a,m,b,q _ _ b U e,r _ _ b U e i,j,a6.mono p _ _ l]
 |pm w=>obtain⟨a,m,b,e,i,j,l⟩:=h;exact#v[a,m,b,q _ _ b U e,r _ _ b U e i,j,a6.mono p _ _ l]
 |dk A w=>obtain⟨a,m,b,e,i,j,l,x⟩:=h;exact#v[a,m,b,q _ _ b U e,r _ _ b U e i,j,l,a6.mono p _ _ x]
 |ob c B w=>obtain⟨a,z,m,b,e,i,j,l,x⟩:=h;exact#v[a,z,m,b,q _ _ b U e,r _ _ b U e i,j,l,a6.mono p _ _ x]
section
variable{G:Bg}{F:Fr}{σ:St}{ρ:bc}{H0 H H0' H':Hp}
theorem bt.fg(R:bt G F σ ρ H0 H){b:Addr}(h:H b=O):F.B b=O:=by
 cases e:F.B b with
 |none=>rfl
 |some o=>
  by_cases a:b∈F.A
  .obtain⟨c,q⟩:=R.am b a;rw[q]at h;cases h
  .have q:=R.keep b o e a;rw[q]at h;cases h
theorem bt.fx(R:bt G F σ ρ H0 H)(hs:vX H H')(h0:vX H0 H0')(sub':vX H0' H')(hf:∀b o,H0' b=Z o->H0 b=Z o\/H b=O):bt G F σ ρ H0' H' where
 sub:=sub'
 g0:=R.g0.t h0
 keep:=λb o e n=>hs _ _ (R.keep b o e n)
 fr:=λb o e=>by
  rcases hf b o e with q|q
  .exact R.fr b o q
  .exact .inr (R.fg q)
 am:=λa ha=>let #v[xs,q]:=R.am a ha;#v[xs,hs _ _ q]
 len:=R.len
 sl:=λi s e=>(R.sl i s e).fx h0 (λa u h h q=>hs _ _ q) λa u h h q q0=>by
  cases z:H0' a with
  |none=>rfl
  |some o=>
   rcases hf a o z with y|y
   .rw[y]at q0;cases q0
   .rw[y]at q;cases q
 ap:=R.ap
def vV{H:Hp}{p:Addr}(a:H p=O)(o:HO):vX H (ef H p o):=vX.new (vX.refl H) a o
def bt.er(R:bt G F σ ρ H0 H){p:Addr}(a:H p=O):H0 p=O:=by
 cases e:H0 p with
 |none=>rfl
 |some o=>have:=R.sub _ _ e;rw[this]at a;cases a
def SC{H0 H:Hp}(s:vX H0 H)(p:Addr)(o:HO):vX (ef H0 p o) (ef H p o):=λb u e=>by
 by_cases a:b=p
 .subst a;rw[vI]at e ⊢;exact e
 .rw[vM a]at e ⊢;exact s _ _ e
def bt.wh(R:bt G F σ ρ H0 H){p:Addr}(a:H p=O)(o:HO):bt G F σ ρ (ef H0 p o) (ef H p o):=
 R.fx (vV a o) (vV (R.er a) o) (SC R.sub p o) λb u e=>by
  by_cases c:b=p
  .subst c;exact .inr a
  .rw[vM c]at e;exact .inl e
def bt.ff(R:bt G F σ ρ H0 H){p:Addr}(a:H p=O)(o:HO):bt G F σ ρ H0 (ef H p o):=
 R.fx (vV a o) (vX.refl _) (λb u e=>by rw[vM (yA (R.sub _ _ e) a)];exact R.sub _ _ e) λb u e=>.inl e
def rh(σ:St)(ρ:bc)(p:Addr):Prop:=∀(i:Nat) (s:Sl),ρ[i]?=Z s->s.f5=γ->(σ[i]?).join≠Z (.ref p)
def bt.apart(R:bt G F σ ρ H0 H){p:Addr}(d:H p=O):rh σ ρ p:=λi s e so z=>by obtain⟨a,u,b,c,_⟩:=(R.sl i s e).at so;rw[z]at b;cases b;rw[d]at c;cases c
theorem bt.p5(R:bt G F σ ρ H0 H){p:Addr}{o:HO}(d:H p=Z o)(h0:H0 p=O)(hb:F.B p=O)(ap:rh σ ρ p):bt G F σ ρ (ef H0 p o) H where
 sub:=λb u e=>by
  by_cases hb:b=p
  .subst hb;rw[vI]at e;cases e;exact d
  .rw[vM hb]at e;exact R.sub _ _ e
 g0:=R.g0.t (vV h0 o)
 keep:=R.keep
 fr:=λb u e=>by
  by_cases c:b=p
  .subst c;exact .inr hb
  .rw[vM c]at e;exact R.fr _ _ e
 am:=R.am
 len:=R.len
 sl:=λi s e=>(R.sl i s e).fx (vV h0 o) (λa u h h q=>q) λa u z so q q0=>by rw[vM (λy=>ap i s e so (by rw[z,y]))];exact q0
 ap:=R.ap
def Mh{σ:St}{i j:Nat}{v:Option V}(a:i<σ.length):((σ.set i v)[j]?).join=if j=i then v else (σ[j]?).join:=by
 rw[cF];by_cases h:i=j
 .subst h;simp[a]
 .rw[ak h,ak (λz=>h z.symm)]
set_option h true
theorem bt.set(R:bt G F σ ρ H0 H){i:Nat}{v:V}{s:Sl}(hs:EG G F H0 H (Z v) s)(ap:s.f5=γ->∀a,v=.ref a->∀(j:Nat) (t:Sl),j≠i->ρ[j]?=Z t->t.f5=γ->(σ[j]?).join≠Z (.ref a)):
  bt G F (σ.set i (Z v)) (ρ.set i s) H0 H where
 sub:=R.sub
 g0:=R.g0
 keep:=R.keep
 fr:=R.fr
 am:=R.am
 len:=by rw[gB,gB,R.len]
 sl:=λj t e=>by
  rw[cF]at e;by_cases h:i=j
  .subst h;rw[aj U]at e;split at e
   .rename_i hi;cases e;rw[Mh (by rw[R.len];exact hi),aj U];exact hs
   .cases e
  .rw[ak h]at e;have A:=R.sl j t e;rw[cF,ak h];exact A
 ap:=λj k t u a hjk q f p tk b vk=>by
  have n9:∀{m:Nat} {x:Sl},(ρ.set i s)[m]?=Z x->m≠i->ρ[m]?=Z x/\((σ.set i (Z v))[m]?).join=(σ[m]?).join:=λ{m x} e hm=>by rw[cF,ak (λz=>hm z.symm)]at e;exact#v[e,by rw[cF,ak (λz=>hm z.symm)]]
  have self:∀{x:Sl},(ρ.set i s)[i]?=Z x->x=s/\((σ.set i (Z v))[i]?).join=Z v:=λ{x} e=>by
   rw[cF,aj U]at e;split at e
   .rename_i hi;cases e;exact#v[U,by rw[Mh (by rw[R.len];exact hi),aj U]]
   .cases e
  by_cases o:j=i
  .subst o;obtain⟨rfl,l⟩:=self q;rw[l]at b;cases b;obtain⟨c,d⟩:=n9 f (λz=>hjk z.symm);rw[d]at vk;exact ap p a U k u (λz=>hjk z.symm) c tk vk
  .obtain⟨c,d⟩:=n9 q o;by_cases r:k=i
   .subst r;obtain⟨rfl,l⟩:=self f;rw[l]at vk;cases vk;rw[d]at b;exact ap tk a U j t o c p b
   .obtain⟨w,y⟩:=n9 f r;rw[d]at b;rw[y]at vk;exact R.ap j k t u a hjk c w p tk b vk
set_option h false
def bt.setIm(R:bt G F σ ρ H0 H)(i:Nat){v:V}{d:D}(h:cm G H0 d v):bt G F (σ.set i (Z v)) (ρ.set i (.I d)) H0 H:=R.set #v[v,U,h] λz=>by cases z
theorem bt.setLs(R:bt G F σ ρ H0 H)(i:Nat){p:Addr}{b:bF}{c:br}(o:H p=Z (.a3 b))(l:H0 p=O)(m:F.B p=O)(d:rh σ ρ p)(h:a6 G H0 c b):bt G F (σ.set i (Z (.ref p))) (ρ.set i (.Y c)) H0 H:=
 R.set #v[p,b,U,o,l,m,h] λs a e j t s f q=>by cases e;exact d j t f q
def bt.mut(R:bt G F σ ρ H0 H){i:Nat}{a:Addr}{s c:Sl}{o:HO}(hi:ρ[i]?=Z s)(so:s.f5=γ)(ha:(σ[i]?).join=Z (.ref a))(ok:∀H',H' a=Z o->EG G F H0 H' (Z (.ref a)) c)
  (J:c.f5=γ):bt G F σ (ρ.set i c) H0 (ef H a o):=by
 obtain⟨P,u,d,Q,f,l⟩:=(R.sl i s hi).at so;rw[ha]at d;cases d;exact {
  sub:=λb w e=>by rw[vM (λz=>by rw[z,f]at e;cases e)];exact R.sub _ _ e
  g0:=R.g0
  keep:=λb w e n=>by
   have C:b≠a:=λz=>by
    subst z;rcases l with q|q
    .rw[q]at e;cases e
    .exact n q
   rw[vM C];exact R.keep b w e n
  fr:=R.fr
  am:=λb hb=>by
   by_cases z:b=a
   .subst z;exact#v[o,vI]
   .rw[vM z];exact R.am b hb
  len:=by rw[gB];exact R.len
  sl:=λj t e=>by
   rw[cF]at e;by_cases h:i=j
   .subst h;rw[aj U]at e;split at e
    .cases e;rw[ha];exact ok _ vI
    .cases e
   .rw[ak h]at e;refine(R.sl j t e).fx (vX.refl _) (λb w z to q=>?_) λb w _ _ _ q=>q;rw[vM (λy=>by subst y;exact R.ap j i t s b (λy=>h y.symm) e hi to so z ha)];exact q
  ap:=λj k t u b hjk p r M tk N vk=>by
   have n9:∀{m:Nat} {x:Sl},(ρ.set i c)[m]?=Z x->∃y,ρ[m]?=Z y/\(x.f5=γ->y.f5=γ):=λ{m x} e=>by
    rw[cF]at e;by_cases h:i=m
    .subst h;exact#v[s,hi,λ_=>so]
    .rw[ak h]at e;exact#v[x,e,λq=>q]
   obtain⟨y,A,E⟩:=n9 p;obtain⟨z,B,I⟩:=n9 r;exact R.ap j k y z b hjk A B (E M) (I tk) N vk }
end
set_option r "E D;T Bool;A br" in abbrev Fϑ0:=bc->Option (ϑ1×bc)
inductive ItF(G:Bg) (f:FE) (σ:St) (H:Hp) (Q:VK):Prop
 |i (F ρ H0 d ρ') (h0:bt G F σ ρ H0 H) (h1:f ρ=Z (d,ρ')) (h2:∀v H0' H',vX H0 H0'->bt G F σ ρ' H0' H'->cm G H0' d v->Q v H'):ItF G f σ H Q
def tF(G:Bg)(f:FE):TE:=λa H Q=>ItF G f a H Q
inductive ItFT(G:Bg) (f:FT) (σ:St) (H:Hp) (Q:(Bool->Hp->Prop)):Prop
 |i (F ρ H0 d ρ') (h0:bt G F σ ρ H0 H) (h1:f ρ=Z (d,ρ')) (h2:∀H0' H',vX H0 H0'->bt G F σ ρ' H0' H'->Q d H'):ItFT G f σ H Q
def l0(G:Bg)(f:FT):TT:=λa H Q=>ItFT G f a H Q
inductive ItFA(G:Bg) (f:FA) (σ:St) (H:Hp) (Q:(bF->Hp->Prop)):Prop
 |i (F ρ H0 ds ρ') (h0:bt G F σ ρ H0 H) (h1:f ρ=Z (ds,ρ')) (h2:∀xs H0' H',vX H0 H0'->bt G F σ ρ' H0' H'->a6 G H0' ds xs->Q xs H'):ItFA G f σ H Q
def qi(G:Bg)(f:FA):TA:=λa H Q=>ItFA G f a H Q
inductive ItFN(G:Bg) (f:FA) (σ:St) (H:Hp) (Q:VK):Prop
 |i (F ρ H0 ds ρ') (h0:bt G F σ ρ H0 H) (h1:f ρ=Z (ds,ρ')) (h2:∀p xs H0' H',vX H0 H0'->bt G F σ ρ' H0' H'->H' p=Z (.a3 xs)->H0' p=O->F.B p=O->rh σ ρ' p->a6 G H0' ds xs->Q (.ref p) H'):ItFN G f σ H Q
def tH(G:Bg)(f:FA):TE:=λa H Q=>ItFN G f a H Q
set_option r "E;T" in def Pϑ0.b?(h:Pϑ0 X e t)(w:∀b H Q,d b H Q->t b H Q):Pϑ0 X e d:=λa s b H Q I c=>h a s b H Q I (w _ _ _ c)
set_option r "W f;A pos" in def Pϑ0.b?(h:Pϑ0 X e t)(w:∀b H Q,d b H Q->t b H Q):Pϑ0 X e d:=λϑ1 a s b H Q I c=>h ϑ1 a s b H Q I (w _ _ _ c)
noncomputable def cC(d:D):FE:=λa=>Z (d,a)
noncomputable def cV(i:Nat):FE:=λa=>match a[i]? with
 |some (.I d)=>Z (d,a)
 |_=>O
noncomputable def c1(g:D->Option D) (f:FE):FE:=λb=>match f b with
 |some (d,a)=>match g d with
  |some x=>Z (x,a)
  |none=>O
 |none=>O
noncomputable def c2(g:D->D->Option D) (f c:FE):FE:=λd=>match f d with
 |some (x,a)=>match c a with
  |some (y,b)=>match g x y with
   |some z=>Z (z,b)
   |none=>O
  |none=>O
 |none=>O
def Fj(h:c1 g f c=Z (z,b)):∃d,f c=Z (d,b)/\g d=Z z:=by
 unfold c1 at h;cases e:f c with
 |none=>rw[e]at h;cases h
 |some p=>
  obtain⟨d,i⟩:=p;rw[e]at h;cases a:g d with
  |none=>simp only[a]at h;cases h
  |some x=>simp only[a]at h;cases h;exact#v[d,U,a]
def Fk(h:c2 g f i j=Z (z,d)):∃x y a,f j=Z (x,a)/\i a=Z (y,d)/\g x y=Z z:=by
 unfold c2 at h;cases e:f j with
 |none=>rw[e]at h;cases h
 |some p=>
  obtain⟨x,a⟩:=p;simp only[e]at h;cases b:i a with
  |none=>simp only[b]at h;cases h
  |some q=>
   obtain⟨y,l⟩:=q;simp only[b]at h;cases c:g x y with
   |none=>simp only[c]at h;cases h
   |some w=>simp only[c]at h;cases h;exact#v[x,y,a,U,b,c]
section
variable{X:Cx}{G:Bg}
set_option r "aj int int RM yf;dT bool X adj yw;ak str str RN Aj" in def aϑ0{i j pos}:PE X (.Constant (.ϑ1 i) j pos) (tF G (cC (.ϑ2 i))):=PE.b? ϑ3 λf H Q h=>by obtain⟨F,c,b,d,a,R,e,k⟩:=h;cases e;exact k _ _ _ (vX.refl _) R (ϑ4 i)
def aal{j pos}:PE X (.Constant .none j pos) (tF G (cC .U)):=PE.b? Zl λf H Q h=>by obtain⟨F,c,b,d,a,R,e,k⟩:=h;cases e;exact k _ _ _ (vX.refl _) R Ak
set_option h true
def Wk(h:cV i b=Z (d,a)):b[i]?=Z (.I d)/\a=b:=by
 unfold cV at h;split at h
 .rename_i e;cases h;exact#v[e,U]
 .cases h
set_option h false
def zS{a:Type}{o:Option (Option a)}{v:a}(h:o.join=Z v):o=Z (Z v):=by
 cases o with
 |none=>cases h
 |some u=>cases u with
  |none=>cases h
  |some w=>cases h;rfl
def NX(h:PE X e (EE i)):PE X e (tF G (cV i)):=PE.b? h λo H Q f=>by obtain⟨F,m,l,d,j,R,e,k⟩:=f;obtain⟨a,rfl⟩:=Wk e;obtain⟨v,b,c⟩:=R.sl i _ a;exact#v[v,zS b,k _ _ _ (vX.refl _) R c]
def Wl(h:PE X e (tC v))(r:∀H,cm G H d v):PE X e (tF G (cC d)):=PE.b? h λj H Q a=>by obtain⟨F,i,c,f,b,R,e,k⟩:=a;cases e;exact k _ _ _ (vX.refl _) R (r _)
def i1(G:Bg)(r:R2)(g:D->D->Option D):Prop:=∀x y z b H v u (Q:VK),g x y=Z z->vX b H->cm G b x v->cm G b y u->(∀w,(∀a,vX b a->cm G a z w)->Q w H)->r v u H Q
def O2(C:i1 G r g):∀h H Q,tF G (c2 g f A) h H Q->tOp r (tF G f) (tF G A) h H Q:=λh H Q B=>by obtain⟨F,N,l,d,c,R,e,k⟩:=B;obtain⟨x,y,b,q,t,z⟩:=Fk e;refine#v[F,N,l,x,b,R,q,λv m o M p I=>#v[F,b,m,y,c,p,t,λu i a j R2 J=>?_]];exact C x y d i a v u Q z R2.sub (cm.mono j _ _ I) J λw E=>k w i a (M.t j) R2 (E _ (vX.refl _))
def adU(i:gi X (cK j) r)(h:i1 G r g)(d:PE X a (tF G f))(e:PE X b (tF G c)):PE X (.BinOp a j b pos) (tF G (c2 g f c)):=PE.b? (RW i d e) (O2 h)
def aam(l:gi X (bD c) r)(j:i1 G r g)(e:PE X a (tF G f))(h:PE X b (tF G d))(i:gE c b=δ):PE X (.Compare a [c] [b] pos) (tF G (c2 g f d)):=PE.b? (VX l e h i) (O2 j)
def adV(i:X1 X r)(h:i1 G r g)(d:PE X a (tF G f))(e:PE X b (tF G c))(j:OZ b):PE X (.Subscript a b pos) (tF G (c2 g f c)):=PE.b? (adH i d e j) (O2 h)
def cT(f:FE):FT:=λc=>match f c with
 |some (.X b,a)=>Z (b,a)
 |_=>O
set_option h true
def O3(h:cT f c=Z (b,a)):f c=Z (.X b,a):=by
 unfold cT at h;split at h
 .rename_i e;cases h;exact e
 .cases h
set_option h false
def O4:∀b H Q,l0 G (cT f) b H Q->RZ (tF G f) b H Q:=λb H Q j=>by obtain⟨F,l,c,d,a,R,e,k⟩:=j;refine#v[F,l,c,_,a,R,O3 e,λv h m s i r=>?_];exact#v[d,r,k _ _ s i]
def Wm(u:gi X (bD h) r)(t:i1 G r g)(m:PE X a (tF G f))(o:PE X b (tF G l))(q:gE h b=δ):
  PT X (.Compare a [h] [b] pos) (l0 G (cT (c2 g f l))):=PT.b? (VY u m o q) λi H Q p=>by
 obtain⟨F,w,j,d,c,R,e,k⟩:=O4 i H Q p;exact O2 t i H _ #v[F,w,j,d,c,R,e,k]
def Wn(h:PE X e (tF G f))(j:autoParam (∀whole,isTrue e X.a4 whole=(do let v<-whole;standAt e.pos;holding [v] (truthy v))) zA3._auto_1):PT X e (l0 G (cT f)):=PT.b? (Zm h j) λp H Q l=>by obtain⟨F,m,b,d,a,R,e,k⟩:=l;refine#v[F,m,b,_,a,R,O3 e,λv c o s i r=>?_];exact#v[d,r,k _ _ s i]
def xm(f:FT):FT:=λc=>match f c with
 |some (b,a)=>Z (!b,a)
 |none=>O
set_option r "I γ;G δ" in def xϑ0(f g:FT):FT:=λb=>match f b with
 |some (ϑ1,a)=>g a
 |r=>r
def Wp(h:PT X a (l0 G f)):PT X (.UnaryOp .Not a pos) (l0 G (xm f)):=PT.b? (Zp h) λu H Q o=>by
 obtain⟨F,i,j,d,q,R,e,k⟩:=o;unfold xm at e;cases c:f i with
 |none=>simp only[c]at e;cases e
 |some p=>obtain⟨b,r⟩:=p;simp only[c]at e;cases e;exact#v[F,i,j,b,_,R,c,λl t s m=>k _ _ s m]
def aan:∀m H Q,l0 G (xI f g) m H Q->tAnd (l0 G f) (l0 G g) m H Q:=λm H Q t=>by
 obtain⟨F,j,o,d,l,R,e,k⟩:=t;unfold xI at e;cases c:f j with
 |none=>simp only[c]at e;cases e
 |some p=>
  obtain⟨b,h⟩:=p;cases b with
  |true=>simp only[c]at e;exact#v[F,j,o,γ,h,R,c,λa q s i=>KO #v[F,h,a,d,l,i,e,λw r u R2=>k _ _ (s.t u) R2]]
  |false=>simp only[c]at e;cases e;exact#v[F,j,o,δ,_,R,c,λa q s i=>KN (k _ _ s i)]
def adW:∀m H Q,l0 G (xG f g) m H Q->tOr (l0 G f) (l0 G g) m H Q:=λm H Q t=>by
 obtain⟨F,j,o,d,l,R,e,k⟩:=t;unfold xG at e;cases c:f j with
 |none=>simp only[c]at e;cases e
 |some p=>
  obtain⟨b,h⟩:=p;cases b with
  |false=>simp only[c]at e;exact#v[F,j,o,δ,h,R,c,λa q s i=>KN #v[F,h,a,d,l,i,e,λw r u R2=>k _ _ (s.t u) R2]]
  |true=>simp only[c]at e;cases e;exact#v[F,j,o,γ,_,R,c,λa q s i=>KO (k _ _ s i)]
set_option r "SD And VO;Wq Or Zn" in def ϑ0(h:PT X a (l0 G f)):PW X (.BoolOp .ϑ1 [a] pos) (l0 G f):=ϑ2 h
set_option r "Wr And I Zo an;SE Or G adl dW" in def ϑ0{et:List Expr}(c:PT X a (l0 G f))(d:PW X (.BoolOp .ϑ1 (b::et) pos) (l0 G g)):PW X (.BoolOp .ϑ1 (a::b::et) pos) (l0 G (xϑ2 f g)):=PW.b? (ϑ3 c d) aϑ4
set_option r "wU γ δ;D' δ γ" in def ϑ0(f g:FE):FE:=λb=>match f b with
 |some (.X ϑ1,a)=>g a
 |some (.X ϑ2,a)=>Z (.X ϑ2,a)
 |_=>O
def HC(f:FE):FE:=λc=>match f c with
 |some (.X b,a)=>Z (.X !b,a)
 |_=>O
def mw(c:FT)(f g:FE):FE:=λb=>match c b with
 |some (γ,a)=>f a
 |some (δ,a)=>g a
 |none=>O
def aao{b}(h:PE X a (tF G f)):PE X (.BoolOp b [a] pos) (tF G f):=Zq h
def Mi{f:FE}{ρ:bc}:(∃a,f ρ=Z (.X γ,a))\/(∃a,f ρ=Z (.X δ,a))\/(∀b a,f ρ≠Z (.X b,a)):=by
 by_cases c:∃a,f ρ=Z (.X γ,a)
 .exact .inl c
 by_cases d:∃a,f ρ=Z (.X δ,a)
 .exact .inr (.inl d)
 refine .inr (.inr λb a z=>?_);cases b with
 |true=>exact c #v[a,z]
 |false=>exact d #v[a,z]
set_option h true
set_option r "QJ wU;SF D'" in def ϑ0(h:∀b a,f ρ≠Z (.X b,a)):ϑ1 f g ρ=O:=by
 unfold ϑ1;split
 .rename_i e;exact aq e (h _ _)
 .rename_i e;exact aq e (h _ _)
 .rfl
set_option h false
def aap{et:List Expr}(u:PE X a (tF G f))(w:PE X (.BoolOp .And (b::et) pos) (tF G g)):PE X (.BoolOp .And (a::b::et) pos) (tF G (wU f g)):=PE.b? (Zr u w) λC H Q x=>by
 obtain⟨F,i,p,d,o,R,e,k⟩:=x;rcases Mi (f:=f) (ρ:=i)with ⟨h,c⟩|⟨h,c⟩|c
 .have m:=by unfold wU at e;simp only[c]at e;exact e
  refine#v[F,i,p,_,h,R,c,λv q j s l r=>?_];refine#v[γ,r,?_];exact KO #v[F,h,q,d,o,l,m,λv B t A R2 z=>k _ _ _ (s.t A) R2 z]
 .have m:=by unfold wU at e;simp only[c]at e;exact e
  cases m;refine#v[F,i,p,_,_,R,c,λv q j s l r=>?_];have y:=r;refine#v[δ,y,?_];exact KN (k _ _ _ s l (yw δ))
 .rw[QJ c]at e;cases e
def adX{et:List Expr}(u:PE X a (tF G f))(w:PE X (.BoolOp .Or (b::et) pos) (tF G g)):PE X (.BoolOp .Or (a::b::et) pos) (tF G (D' f g)):=PE.b? (ado u w) λB H Q x=>by
 obtain⟨F,i,p,d,o,R,e,k⟩:=x;rcases Mi (f:=f) (ρ:=i)with ⟨h,c⟩|⟨h,c⟩|c
 .have m:=by unfold D' at e;simp only[c]at e;exact e
  cases m;refine#v[F,i,p,_,_,R,c,λv q j s l r=>?_];refine#v[γ,r,?_];exact KO (k _ _ _ s l (yw γ))
 .have m:=by unfold D' at e;simp only[c]at e;exact e
  refine#v[F,i,p,_,h,R,c,λv q j s l r=>?_];refine#v[δ,r,?_];exact KN #v[F,h,q,d,o,l,m,λv A t z R2 y=>k _ _ _ (s.t z) R2 y]
 .rw[SF c]at e;cases e
set_option h true
def aaq(l:PE X a (tF G f)):PE X (.UnaryOp .Not a pos) (tF G (HC f)):=PE.b? (Zs l) λu H Q m=>by
 obtain⟨F,o,c,d,p,R,e,k⟩:=m;unfold HC at e;split at e
 .rename_i b q j;cases e;refine#v[F,o,c,_,_,R,j,λv t h s i r=>?_];exact#v[b,r,k _ _ _ s i (yw _)]
 .cases e
set_option h false
def adY(B:PT X c (l0 G h))(z:PE X a (tF G f))(A:PE X b (tF G g)):PE X (.IfExp c a b pos) (tF G (mw h f g)):=PE.b? (RO B z A) λE H Q C=>by
 obtain⟨F,u,w,d,j,R,e,k⟩:=C;unfold mw at e;cases l:h u with
 |none=>simp only[l]at e;cases e
 |some p=>
  obtain⟨b,i⟩:=p;refine#v[F,u,w,b,i,R,l,λr x s t=>?_];cases b with
  |true=>simp only[l]at e;exact KO #v[F,i,r,d,j,t,e,λv y m q R2 o=>k _ _ _ (s.t q) R2 o]
  |false=>simp only[l]at e;exact KN #v[F,i,r,d,j,t,e,λv y m q R2 o=>k _ _ _ (s.t q) R2 o]
noncomputable def vP:FA:=λa=>Z ([],a)
noncomputable def ax(f:FE) (g:FA):FA:=λe=>match f e with
 |some (d,a)=>match g a with
  |some (c,b)=>Z (d::c,b)
  |none=>O
 |none=>O
def NY(h:ax f g i=Z (j,c)):∃d r a,f i=Z (d,a)/\g a=Z (r,c)/\j=d::r:=by
 unfold ax at h;cases e:f i with
 |none=>rw[e]at h;cases h
 |some p=>
  obtain⟨x,a⟩:=p;simp only[e]at h;cases b:g a with
  |none=>simp only[b]at h;cases h
  |some q=>obtain⟨y,l⟩:=q;simp only[b]at h;cases h;exact#v[x,y,a,U,b,U]
def yK:PA X [] (qi G vP):=PA.b? AJ λh H Q a=>by obtain⟨F,f,c,d,b,R,e,k⟩:=a;cases e;exact k _ _ _ (vX.refl _) R wC
def xE(t:PE X e (tF G f))(w:PA X b (qi G g))(y:autoParam (aF (e::b) X.a4=(δ,eval e X.a4)::aF b X.a4) zA0._auto_1):PA X (e::b) (qi G (ax f g)):=PA.b? (yx t w y) λE H Q u=>by obtain⟨F,A,i,d,c,R,e,k⟩:=u;obtain⟨x,r,a,p,q,rfl⟩:=NY e;exact#v[F,A,i,x,a,R,p,λv j l s o z=>#v[F,a,j,r,c,o,q,λC B m h R2 rs=>k _ _ _ (s.t h) R2 (wJ (cm.mono h _ _ z) rs)]]
def vQ(g:FA):FE:=λc=>match g c with
 |some (b,a)=>if b.length<=1000 then Z (.a7 b,a)else O
 |none=>O
def vO(g:FA):FA:=λc=>match g c with
 |some (b,a)=>if b.length<=1000 then Z (b,a)else O
 |none=>O
set_option h true
def aar{q}(h:PA X l (qi G g)):PE X (.Tuple l q pos) (tF G (vQ g)):=PE.b? (Sa h) λy H Q m=>by
 obtain⟨F,f,i,d,r,R,e,k⟩:=m;unfold vQ at e;cases b:g f with
 |none=>simp only[b]at e;cases e
 |some p=>
  obtain⟨w,t⟩:=p;simp only[b]at e;split at e
  .rename_i o;cases e;refine#v[F,f,i,_,_,R,b,λx u j s a rs=>#v[by rw[<-vH rs];exact y9 o,λp c=>?_]];exact k _ _ _ (s.t (vV (a.er c) _)) (a.wh c _) (D7 (e?.of vI) (a6.mono (vV (a.er c) _) _ _ rs))
  .cases e
def Wt(h:PA X l (qi G g)):PE X (.List l pos) (tH G (vO g)):=PE.b? (Sb h) λx H Q m=>by
 obtain⟨F,f,i,d,q,R,e,k⟩:=m;unfold vO at e;cases c:g f with
 |none=>simp only[c]at e;cases e
 |some p=>
  obtain⟨u,r⟩:=p;simp only[c]at e;split at e
  .rename_i o;cases e;refine#v[F,f,i,_,_,R,c,λw t j s a rs=>#v[by rw[<-vH rs];exact y9 o,λp b=>?_]];exact k _ _ _ _ s (a.ff b _) vI (a.er b) (a.fg b) (a.apart b) rs
  .cases e
set_option h false
def cL(g:FA):FE:=λc=>match g c with
 |some (b,a)=>Z (.a3 b,a)
 |none=>O
def Wu(h:cL g c=Z (d,b)):∃a,g c=Z (a,b)/\d=.a3 a:=by
 unfold cL at h;cases e:g c with
 |none=>simp only[e]at h;cases h
 |some p=>obtain⟨a,f⟩:=p;simp only[e]at h;cases h;exact#v[a,U,U]
def tN_F:∀c H Q,tF G (cL g) c H Q->tH G g c H Q:=λc H Q q=>by obtain⟨F,t,f,d,b,R,e,k⟩:=q;obtain⟨l,m,rfl⟩:=Wu e;refine#v[F,t,f,l,b,R,m,λp w u h s i r a o j rs=>?_];exact k _ _ _ (s.t (vV a _)) (i.p5 r a o j) (D8 vI (a6.mono (vV a _) _ _ rs))
def aas(h:PE X e (tH G g)):PE X e (tF G (cL g)):=PE.b? h tN_F
end
inductive A5 where
 |nx (ρ:bc)|bk (ρ:bc)|ct (ρ:bc)
 |rt (d:D) (ρ:bc)
 |rn (ds:br) (ρ:bc)
abbrev FS:=bc->Option A5
def O5(G:Bg)(F:Fr)(f:Hp)(E:B?):A5->Prop
 |.nx c=>∀b a e,vX f a->bt G F b c a e->E.nx b e
 |.bk c=>∀b a e,vX f a->bt G F b c a e->E.bk b e
 |.ct c=>∀b a e,vX f a->bt G F b c a e->E.ct b e
 |.rt d c=>∀v b a e,vX f a->bt G F b c a e->cm G a d v->E.rt v e
 |.rn i c=>∀p h b a e,vX f a->bt G F b c a e->e p=Z (.a3 h)->a p=O->F.B p=O->rh b c p->a6 G a i h->E.rt (.ref p) e
inductive ItFS(G:Bg) (f:FS) (E:B?) (σ:St) (H:Hp):Prop
 |i (F ρ H0 o) (h0:bt G F σ ρ H0 H) (h1:f ρ=Z o) (h2:O5 G F H0 E o) (h3:(∀p,E.rt p=E.rt p)):ItFS G f E σ H
def ki(G:Bg)(f:FS):TS:=λE a H=>ItFS G f E a H
def O5.z3(h:O5 G F i E o)(s:vX i j):O5 G F j E o:=by
 cases o with
 |nx f=>exact λb a c e R=>h b a c (s.t e) R
 |bk f=>exact λb a c e R=>h b a c (s.t e) R
 |ct f=>exact λb a c e R=>h b a c (s.t e) R
 |rt d f=>exact λv b a c e R=>h v b a c (s.t e) R
 |rn m f=>exact λp l b a c e R=>h p l b a c (s.t e) R
set_option r "PS;m?" in def ϑ0.b?(h:ϑ0 X e t)(w:∀E b H,d E b H->t E b H):ϑ0 X e d:=λa s b H D I c=>h a s b H D I (w _ _ _ c)
def vG:FS:=λa=>Z (.nx a)
noncomputable def a0(f g:FS):FS:=λb=>match f b with
 |some (.nx a)=>g a
 |r=>r
section
variable{X:Cx}{G:Bg}
def aat(h:ki G vG E a H):E.nx a H:=by obtain⟨F,c,b,o,R,e,k,_⟩:=h;cases e;exact k _ _ _ (vX.refl _) R
def Wv:m? X [] (ki G vG):=m?.b? VP λE a H h=>aat h
def SG{st:Stmt}{et:List Stmt}(p:PS X st (ki G f))(q:m? X et (ki G g)):m? X (st::et) (ki G (a0 f g)):=m?.b? (HV p q) λE w H h=>by
 obtain⟨F,i,j,o,R,e,k,c⟩:=h;unfold a0 at e;cases a:f i with
 |none=>simp only[a]at e;cases e
 |some r=>
  cases r with
  |nx b=>simp only[a]at e;exact#v[F,i,j,_,R,a,λt l u s m=>#v[F,b,l,o,m,e,k.z3 s,c],c]
  |bk b=>simp only[a]at e;cases e;exact#v[F,i,j,_,R,a,k,c]
  |ct b=>simp only[a]at e;cases e;exact#v[F,i,j,_,R,a,k,c]
  |rt d b=>simp only[a]at e;cases e;exact#v[F,i,j,_,R,a,k,c]
  |rn d b=>simp only[a]at e;cases e;exact#v[F,i,j,_,R,a,k,c]
def Ww{st:Stmt}(a:PS X st (ki G f)):m? X [st] (ki G f):=Kz a
noncomputable def vA(f:FE):FS:=λb=>match f b with
 |some (d,a)=>Z (.rt d a)
 |none=>O
noncomputable def wW(f:FA):FS:=λb=>match f b with
 |some (d,a)=>Z (.rn d a)
 |none=>O
def wm{b:Type}{f:bc->Option (b×bc)}{ρ:bc}:f ρ=O\/∃d a,f ρ=Z (d,a):=by
 cases e:f ρ with
 |none=>exact .inl U
 |some p=>exact .inr #v[p.1,p.2,U]
def Wx(h:PE X e (tF G f)):PS X (.Return (Z e) pos) (ki G (vA f)):=PS.b? (NB h) λE t H m=>by
 obtain⟨F,b,i,o,R,e,k,q⟩:=m;unfold vA at e;rcases wm (f:=f) (ρ:=b)with a|⟨d,c,a⟩<;>simp only[a]at e
 .cases e
 .cases e;exact#v[F,b,i,d,c,R,a,λv j p s l r=>k _ _ _ _ s l r]
def SI(h:PE X e (tH G f)):PS X (.Return (Z e) pos) (ki G (wW f)):=PS.b? (NB h) λE A H w=>by
 obtain⟨F,b,i,o,R,e,k,y⟩:=w;unfold wW at e;rcases wm (f:=f) (ρ:=b)with a|⟨d,c,a⟩<;>simp only[a]at e
 .cases e
 .cases e;exact#v[F,b,i,d,c,R,a,λp z j x s l m q r t u=>k _ _ _ _ _ s l m q r t u]
noncomputable def wc(f:FE):FS:=λb=>match f b with
 |some (_,a)=>Z (.nx a)
 |none=>O
def SJ{pos:Pos}(h:PE X e (tF G f))(p:autoParam (dQ e O pos.line X.a4=pure δ) zA0._auto_1):PS X (.Expr e pos) (ki G (wc f)):=PS.b? (OO h p) λE u H m=>by
 obtain⟨F,b,i,o,R,e,k,t⟩:=m;unfold wc at e;rcases wm (f:=f) (ρ:=b)with a|⟨d,c,a⟩<;>simp only[a]at e
 .cases e
 .cases e;exact#v[F,b,i,d,c,R,a,λv j q s l r=>k _ _ _ s l]
noncomputable def eg(c:FT) (f g:FS):FS:=λb=>match c b with
 |some (γ,a)=>f a
 |some (δ,a)=>g a
 |none=>O
def aau(w:PT X c (l0 G h))(t:m? X a (ki G f))(u:m? X b (ki G g)):PS X (.If c a b pos) (ki G (eg h f g)):=PS.b? (ads w t u) λE z H x=>by
 obtain⟨F,m,r,o,R,e,k,q⟩:=x;unfold eg at e;rcases wm (f:=h) (ρ:=m)with l|⟨d,i,l⟩
 .simp only[l]at e;cases e
 .refine#v[F,m,r,d,i,R,l,λj y s p=>?_];cases d with
  |true=>simp only[l]at e;exact KO #v[F,i,j,o,p,e,k.z3 s,q]
  |false=>simp only[l]at e;exact KN #v[F,i,j,o,p,e,k.z3 s,q]
abbrev FG:=D->bc->Option bc
inductive ItFG(G:Bg) (n:Nat) (g:FG) (v:V) (σ:St) (H:Hp) (Q:(St->Hp->Prop)):Prop
 |i (F ρ H0 d ρ') (h0:bt G F σ ρ H0 H) (h1:cm G H0 d v) (h2:g d ρ=Z ρ') (h3:∀σ',σ'.drop n=σ.drop n->bt G F σ' ρ' H0 H->Q σ' H):ItFG G n g v σ H Q
def tFG(G:Bg)(n:Nat)(g:FG):TG:=λv a H Q=>ItFG G n g v a H Q
inductive YA(G:Bg) (n:Nat) (g:br->bc->Option bc) (vs:bF) (σ:St) (H:Hp) (Q:(St->Hp->Prop)):Prop
 |i (F ρ H0 ds ρ') (h0:bt G F σ ρ H0 H) (h1:a6 G H0 ds vs) (h2:g ds ρ=Z ρ') (h3:∀σ',σ'.drop n=σ.drop n->bt G F σ' ρ' H0 H->Q σ' H):YA G n g vs σ H Q
def SK(G:Bg)(n:Nat)(g:br->bc->Option bc):TGs:=λa b H Q=>YA G n g a b H Q
set_option r "PG;G'" in def ϑ0.b?(h:ϑ0 X e t)(w:∀v b H Q,d v b H Q->t v b H Q):ϑ0 X e d:=λa s b H x u Q I r c=>h a s b H x u Q I r (w _ _ _ _ c)
def gN(i:Nat):FG:=λd a=>Z (a.set i (.I d))
def Mj{a:Type}{l:List a}{i n:Nat}{x:a}(h:i<n):(l.set i x).drop n=l.drop n:=by apply mj;intro j;rw[eZ,eZ,cF,ak (by omega)]
def SL(n:Nat)(h:PG X c (Be i))(b:i<n):PG X c (tFG G n (gN i)):=PG.b? h λv m H Q a=>by obtain⟨F,l,j,d,f,R,r,e,k⟩:=a;cases e;exact k _ (Mj b) (R.setIm i r)
def Bi:br->bc->Option bc:=λa b=>match a with
 |[]=>Z b
 |_=>O
def wq(g:FG)(c:br->bc->Option bc):br->bc->Option bc:=λb e=>match b with
 |d::r=>match g d e with
  |some a=>c r a
  |none=>O
 |[]=>O
def WA(h:G' X [] gNil):G' X [] (SK G n Bi):=G'.b? h λv j H Q b=>by
 obtain⟨F,i,f,a,c,R,r,e,k⟩:=b;cases a with
 |nil=>cases e;unfold a6 at r;exact#v[r,k _ U R]
 |cons d a=>cases e
def SM(h:G' X (e::p) (Yj (tFG G n g) (SK G n q))):G' X (e::p) (SK G n (wq g q)):=G'.b? h λv B H Q t=>by
 obtain⟨F,l,j,c,i,R,r,e,k⟩:=t;cases c with
 |nil=>cases e
 |cons d c=>
  obtain⟨z,x,rfl,u,w⟩:=r;unfold wq at e;cases f:g d l with
  |none=>simp only[f]at e;cases e
  |some a=>simp only[f]at e;exact#v[z,x,U,F,l,j,d,a,R,u,f,λA s o=>#v[F,a,j,c,i,o,w,e,λm y b=>k _ (y.t s) b]]
def gT(b:br->bc->Option bc)(n:Nat):FG:=λd c=>match d with
 |.a7 a=>if a.length=n then b a c else O
 |_=>O
set_option h true
def WB(h:PG X (.Tuple j k pos) (Zt G.K m (SK G n l))):PG X (.Tuple j k pos) (tFG G n (gT l m)):=PG.b? h λv w H Q p=>by
 obtain⟨F,u,f,d,b,R,r,e,k⟩:=p;cases d with
 |a7 i=>
  unfold gT at e;simp only at e;split at e
  .rename_i q;obtain⟨a,t,rfl,o,c⟩:=r;exact#v[a,t,U,e?.mono R.sub o,by rw[<-vH c];exact q,F,u,f,i,b,R,c,e,k]
  .cases e
 |_=>cases e
set_option h false
def Fl(f:FE)(g:FG):FS:=λc=>match f c with
 |some (d,a)=>match g d a with
  |some b=>Z (.nx b)
  |none=>O
 |none=>O
def WC{st:Stmt}(h:PS X st (E7 (tF G f) (tFG G n g))):PS X st (ki G (Fl f g)):=PS.b? h λE x H q=>by
 obtain⟨F,j,m,o,R,e,k,w⟩:=q;unfold Fl at e;rcases wm (f:=f) (ρ:=j)with c|⟨d,a,c⟩<;>simp only[c]at e
 .cases e
 .cases i:g d a with
  |none=>simp only[i]at e;cases e
  |some l=>simp only[i]at e;cases e;exact#v[F,j,m,d,a,R,c,λv b u s p r=>#v[F,a,b,d,l,p,r,i,λt _ R2=>k _ _ _ s R2]]
def vN(i:Nat)(f:FE):FS:=λb=>match f b with
 |some (d,a)=>Z (.nx (a.set i (.I d)))
 |none=>O
def O6{st:Stmt}(h:PS X st (E7 (tF G f) (Be i))):PS X st (ki G (vN i f)):=PS.b? h λE u H p=>by
 obtain⟨F,b,j,o,R,e,k,t⟩:=p;unfold vN at e;rcases wm (f:=f) (ρ:=b)with a|⟨d,c,a⟩<;>simp only[a]at e
 .cases e
 .cases e;exact#v[F,b,j,d,c,R,a,λv l q s m r=>k _ _ _ s (m.setIm i r)]
def xO(i:Nat)(f:FA):FS:=λb=>match f b with
 |some (d,a)=>Z (.nx (a.set i (.Y d)))
 |none=>O
def Ml{st:Stmt}(h:PS X st (E7 (tH G f) (Be i))):PS X st (ki G (xO i f)):=PS.b? h λE B H x=>by
 obtain⟨F,b,j,o,R,e,k,z⟩:=x;unfold xO at e;rcases wm (f:=f) (ρ:=b)with a|⟨d,c,a⟩<;>simp only[a]at e
 .cases e
 .cases e;exact#v[F,b,j,d,c,R,a,λp A l y s m q r t u w=>k _ _ _ s (m.setLs i q r t u w)]
def w?(n:Nat)(a:br):bc:=a.map Sl.I++fw (n - a.length) .un
def dr(b n:Nat)(f:FS):br->Option D:=λa=>if a.length=b then match f (w? n a)with
 |some (.rt d _)=>Z d
 |some (.rn a _)=>Z (.a3 a)
 |some (.nx _)=>Z .U
 |_=>O
 else O
def qt(b n:Nat)(f:FS):br->Option br:=λa=>if a.length=b then match f (w? n a)with
 |some (.rn a _)=>Z a
 |_=>O
 else O
inductive IspF(G:Bg) (g:br->Option D) (vs:bF) (H:Hp) (Q:VK) (_x3:XK):Prop
 |i (H0 ds d) (h0:vX H0 H) (h1:a6 G H0 ds vs) (h2:g ds=Z d) (h3:∀v H0' H',vX H0 H0'->vX H0' H'->vX H H'->(∀b o,H0' b=Z o->H0 b=Z o\/H b=O)->cm G H0' d v->Q v H'):IspF G g vs H Q _x3
def eb(G:Bg)(g:br->Option D):Sp:=λa H Q _x3=>IspF G g a H Q _x3
inductive IspN(G:Bg) (g:br->Option br) (vs:bF) (H:Hp) (Q:VK) (_x3:XK):Prop
 |i (H0 ds d) (h0:vX H0 H) (h1:a6 G H0 ds vs) (h2:g ds=Z d) (h3:∀p xs H0' H',vX H0 H0'->vX H0' H'->vX H H'->(∀b o,H0' b=Z o->H0 b=Z o\/H b=O)->H p=O->H' p=Z (.a3 xs)->H0' p=O->a6 G H0' d xs->Q (.ref p) H'):IspN G g vs H Q _x3
def o?(G:Bg)(g:br->Option br):Sp:=λa H Q _x3=>IspN G g a H Q _x3
def KQ{n:Nat}{b:br}{i:Nat}{s:Sl}(h:(w? n b)[i]?=Z s):s=.un\/∃d,b[i]?=Z d/\s=.I d:=by
 unfold w? at h;by_cases a:i<b.length
 .rw[gh (by simpa using a),bg,aO a]at h;cases h;exact .inr #v[_,aO a,U]
 .rw[gf (by simpa using a),jJ]at h;split at h
  .cases h;exact .inl U
  .cases h
def Gq{N:aB}{a:bF}{i:Nat}{v:V}(h:a[i]?=Z v):((L2.start N a)[i]?).join=Z v:=by unfold L2.start;have b:=(bY.1 h).1;rw[gh (by simpa using b),bg,h];rfl
def JZ{N:aB}(s:vX H0 H)(r:a6 G H0 ds vs)(p:vs.length<=N.length):bt G #v[H0,H,[]] (L2.start N vs) (w? N.length ds) H0 H where
 sub:=s
 g0:=vX.refl _
 keep:=λb o e _=>e
 fr:=λb o e=>.inl e
 am:=λa h=>by cases h
 len:=by unfold L2.start w?;rw[aA,aA,ae,ae,c7,c7,vH r]
 sl:=λi t e=>by
  rcases KQ e with rfl|⟨d,c,rfl⟩
  .trivial
  .obtain⟨v,f,l⟩:=AL r c;exact#v[v,Gq f,l]
 ap:=λi j t u a _ e _ m=>by rcases KQ e with rfl|⟨d,_,rfl⟩<;>cases m
set_option h true
def Mm(h:dr j n f b=Z d):b.length=j/\((∃a,f (w? n b)=Z (.rt d a))\/(∃c a,f (w? n b)=Z (.rn c a)/\d=.a3 c)\/∃a,f (w? n b)=Z (.nx a)/\d=.U):=by
 unfold dr at h;split at h
 .rename_i i;refine#v[i,?_];split at h
  .rename_i e;cases h;exact .inl #v[_,e]
  .rename_i e;cases h;exact .inr (.inl #v[_,_,e,U])
  .rename_i e;cases h;exact .inr (.inr #v[_,e,U])
  .cases h
 .cases h
def Mo(h:qt c n f a=Z d):a.length=c/\∃i,f (w? n a)=Z (.rn d i):=by
 unfold qt at h;split at h
 .rename_i b;refine#v[b,?_];split at h
  .rename_i e;cases h;exact#v[_,e]
  .cases h
 .cases h
end
set_option h false
def WE{N:aB}(hN:I<=N.length)(h:eb G (dr I N.length f) M H Q E):ki G f { nx:=λ_ c=>Q .U c,rt:=Q } (L2.start N M) H:=by
 obtain⟨l,P,d,s,r,e,k⟩:=h;obtain⟨C,A⟩:=Mm e;clear e;have R:=JZ s r (by rw[<-vH r,C];exact hN);have fin:∀{j:St} {x:bc} {a c:Hp},bt G #v[l,H,[]] j x a c->vX H c/\vX a c/\∀b o,a b=Z o->l b=Z o\/H b=O:=λi=>#v[λb o e=>i.keep b o e (by simp),i.sub,i.fr];rcases A with ⟨y,e⟩|⟨S,y,e,rfl⟩|⟨y,e,rfl⟩
 .refine#v[_,_,l,_,R,e,λv j a c u i J=>?_,λ_=>U];obtain⟨m,q,t⟩:=fin i;exact k v a c u q m t J
 .refine#v[_,_,l,_,R,e,λp T j a c u i F w B z rs=>?_,λ_=>U];have R2:=i.p5 F w B z;obtain⟨m,q,t⟩:=fin R2;exact k _ _ c (u.t (vV w _)) q m t (D8 vI (a6.mono (vV w _) _ _ rs))
 .refine#v[_,_,l,_,R,e,λj a c u i=>?_,λ_=>U];obtain⟨m,q,t⟩:=fin i;exact k _ a c u q m t Ak
def WG{N:aB}(hN:u<=N.length)(h:o? G (qt u N.length f) x H Q E):ki G f { nx:=λ_ a=>Q .U a,rt:=Q } (L2.start N x) H:=by obtain⟨j,B,d,s,r,e,k⟩:=h;obtain⟨q,C,e⟩:=Mo e;have R:=JZ s r (by rw[<-vH r,q];exact hN);refine#v[_,_,j,_,R,e,λp y z c a w i t l m A rs=>?_,λ_=>U];exact k p y c a w i.sub (λb o e=>i.keep b o e (by simp)) i.fr m t l rs
set_option r "4 eb;5 o?" in def adϑ0(c:∀a d,g a=Z d->a.length=f):∀b H Q E,ϑ1 G g b H Q E->b.length=f:=λb H Q E h=>by obtain⟨i,a,d,_,r,e,_⟩:=h;rw[<-vH r];exact c _ _ e
set_option r "H dr m;I qt o" in def Wϑ0:∀a d,ϑ1 b n f a=Z d->a.length=b:=λt t h=>(Mϑ2 h).1
def Gr{c:Type}(g:br->Option c)(a:FA):bc->Option (c×bc):=λf=>match a f with
 |some (e,b)=>match g e with
  |some d=>Z (d,b)
  |none=>O
 |none=>O
abbrev vx(g:br->Option D)(a:FA):FE:=Gr g a
abbrev wx(g:br->Option br)(a:FA):FA:=Gr g a
def EH{j:Type}{g:br->Option j}{a:FA}{ρ c:bc}{d:j}(h:Gr g a ρ=Z (d,c)):∃b,a ρ=Z (b,c)/\g b=Z d:=by
 unfold Gr at h;rcases wm (f:=a) (ρ:=ρ)with e|⟨b,l,e⟩<;>simp only[e]at h
 .cases h
 .cases i:g b with
  |none=>simp only[i]at h;cases h
  |some x=>simp only[i]at h;cases h;exact#v[b,e,i]
section
variable{X:Cx}{G:Bg}
def WJ(hd:∀H,a6 G H dds dvs):∀h H Q,tF G (vx (λb=>g (b++dds)) a) h H Q->HZ (eb G g) dvs E (qi G a) h H Q:=λh H Q t=>by obtain⟨F,y,l,d,f,R,e,k⟩:=t;obtain⟨b,q,r⟩:=EH e;refine#v[F,y,l,b,f,R,q,λz m o s i rs=>#v[m,b++dds,d,i.sub,xN rs (hd _),r,λv p c j w x fr u=>?_]];exact k v p c (s.t j) (i.fx x j w fr) u
def WK(hd:∀H,a6 G H dds dvs):∀i H Q,tH G (wx (λc=>g (c++dds)) a) i H Q->HZ (o? G g) dvs E (qi G a) i H Q:=λi H Q x=>by obtain⟨F,I,m,d,h,R,e,k⟩:=x;obtain⟨c,t,u⟩:=EH e;refine#v[F,I,m,c,h,R,t,λJ o q s b rs=>#v[o,c++dds,d,b.sub,xN rs (hd _),u,λp C r f l A B fr j y w z=>?_]];exact k p C r f (s.t l) (b.fx B l A fr) y w (b.fg j) (b.apart j) z
end
section
variable{X:Cx}{G:Bg}
set_option r "WL eb F vx J;SN o? H wx K" in def ϑ0(hd:∀H,a6 G H dds dvs)(h:PE X e (HZ (ϑ1 G g) dvs E (qi G a))):PE X e (tϑ2 G (ϑ3 (λb=>g (b++dds)) a)):=PE.b? h (Wϑ4 hd)
def QK(h:PE X e (HZ (o? G g) [] E Jy)):PE X e (tH G (wx g vP)):=PE.b? h λA H Q o=>by obtain⟨F,z,f,d,x,R,e,k⟩:=o;obtain⟨y,j,l⟩:=EH e;cases j;exact#v[f,[],d,R.sub,wC,l,λp w i a c t u fr b q m r=>k p w i a c (R.fx u c t fr) q m (R.fg b) (R.apart b) r]
def QL:aB->br->Str->Option D
 |n::b,d::a,f=>if n=f then Z d else QL b a f
 |_,_,_=>O
theorem J0:∀{h:aB} {b:br} {a:bF} {f:Str} {d:D},a6 G H b a->QL h b f=Z d->∃v,(h.zip a).lookup f=Z v/\cm G H d v
 |[],b,a,f,d,r,e=>by simp[QL]at e
 |n::h,[],a,f,d,r,e=>by simp[QL]at e
 |n::h,p::b,a,f,d,r,e=>by
  obtain⟨v,q,rfl,l,m⟩:=r;unfold QL at e;by_cases c:n=f
  .rw[aj c]at e;cases e;subst c;exact#v[v,by simp[dO],l]
  .rw[ak c]at e;obtain⟨w,i,j⟩:=J0 m e;refine#v[w,?_,j];have o:=beq_eq_false_iff_ne.2 λz=>c z.symm;simp only[fK,dO,o];exact i
def vF(ok:Nat->Bool)(f:Str):D->Option D
 |.obj c b a=>if ok c=γ then QL b a f else O
 |_=>O
set_option h true
def SO(A:PE X e (tF G t))(j:∀c,ok c=γ->Fs X.K (G.ca c)/\BD X.K (G.ca c) f)(z:autoParam (fA e f X.a4 (eval e X.a4)=eval e X.a4) zA0._auto_1):PE X (.Attribute e f pos) (tF G (c1 (vF ok f) t)):=PE.b? (Z1 A z) λT H Q B=>by
 obtain⟨F,I,m,d,h,R,e,k⟩:=B;obtain⟨x,q,b⟩:=Fj e;cases x with
 |obj c P M=>
  unfold vF at b;simp only at b;split at b
  .rename_i l;refine#v[F,I,m,_,h,R,q,λv J o s i r=>?_];obtain⟨a,p,S,rfl,u,N,y⟩:=r;obtain⟨w,C,E⟩:=J0 y b;exact#v[a,_,p,_,w,U,i.sub _ _ u,(j c l).1,(j c l).2,C,k _ _ _ s i E]
  .cases b
 |_=>cases b
set_option h false
def MOk(X:Cx)(C:Addr)(m:Str)(d:Sp)(dvs:bF)(E:XK):Prop:=∃(k:Nat) (f:Addr) (b:cn) (c:aB) (a:List ab),Fs X.K C/\Meth X.K C m f/\zI X.prog X.w X.K X.mg X.a5 x? k f b c d/\ye k X.A/\i? X.K b c a/\c6 dvs a/\nr x? X E
def vU(g:Nat->Option (br->Option D))(m:Str)(f:FE)(a:FA):FE:=λo=>match f o with
 |some (.obj c i j,b)=>match g c with
  |some h=>if i.contains m=γ then O else match a b with
   |some (l,e)=>match h (.obj c i j::l)with
    |some d=>Z (d,e)
    |none=>O
   |none=>O
  |none=>O
 |_=>O
set_option h true
def Ip(h:vU g m f a ρ=Z (d,t)):
  ∃c e i b l j,f ρ=Z (.obj c e i,b)/\g c=Z l/\e.contains m=δ/\a b=Z (j,t)/\l (.obj c e i::j)=Z d:=by
 unfold vU at h;split at h
 .rename_i c e i b u;cases o:g c with
  |none=>simp only[o]at h;cases h
  |some l=>
   simp only[o]at h;cases p:e.contains m with
   |true=>simp only[p,if_true]at h;cases h
   |false=>
    simp only[p,gp,if_false]at h;rcases wm (f:=a) (ρ:=b)with q|⟨j,w,q⟩<;>simp only[q]at h
    .cases h
    .cases r:l (.obj c e i::j)with
     |none=>simp only[r]at h;cases h
     |some x=>simp only[r]at h;cases h;exact#v[c,e,i,b,l,j,u,o,p,q,r]
 .cases h
set_option h false
theorem EI:∀{a:aB} {b:bF},a.contains m=δ->(a.zip b).lookup m=O
 |[],b,h=>rfl
 |n::a,[],h=>rfl
 |n::a,x::b,h=>by rw[pO,lG]at h;simp only[fK,dO,h.1];exact EI h.2
def SQ(T:Addr->Sp->Prop)(hT:∀C d,T C d->MOk X C m d dvs E)(W:PE X o ta)(R:PA X (e::i) t)
  (hst:autoParam (aF (e::i) X.a4=(δ,eval e X.a4)::aF i X.a4) zA0._auto_1) (hpl:autoParam ((bO pos (aF i X.a4)).any (·.1)=δ) zA0._auto_1)
  (w:autoParam (eval (.Call (.Attribute o m apos) (e::i) [] pos) X.a4=(do
   let M<-eval o X.a4
   standAt apos.atName
   let (f,first)<-holding [M] (getMethod M m pl)
   callWith pos f first (bO pos (aF (e::i) X.a4)) (backToKw pos (dP [] X.a4)))) zA0._auto_1):
  PE X (.Call (.Attribute o m apos) (e::i) [] pos) (λj H Q=>ta j H λx p=>∃a C B fs d,x=.ref a/\p a=Z (.ke C B fs)/\T C d/\fs.lookup m=O/\t j p λvs y=>d (x::(vs++dvs)) y Q E):=by
 intro b s j H Q I h;refine qI (e3 (W b s j H _ I h) λu s1 zz=>?_) w;obtain⟨x,p,z,rx,a,C,B,fs,d,P,N,w,l,q⟩:=zz;obtain⟨k,f,fd,ps,ds,c,J,F,Y,S,hd,hx⟩:=hT C d w;subst P;obtain rfl:u=Value.ref a:=rx;refine HY z N c J l ?_;refine nu I.ok.w6.kin J.kp (e3 (R pos b s1 j p _ z q) λus s2 #v[vs,y,A,r,q2]=>#v[A.ma,?_]) hst hpl;exact KB (vs:=.ref a::vs) F Y S hd hx A (.cons U r) q2
def QM(T:Addr->Sp->Prop)(hT:∀C b,T C b->MOk X C m b dvs E)(B:PE X o P)
  (j:autoParam (eval (.Call (.Attribute o m apos) [] [] pos) X.a4=(do
   let w<-eval o X.a4
   standAt apos.atName
   let (f,first)<-holding [w] (getMethod w m pl)
   callWith pos f first (bO pos (aF [] X.a4)) (backToKw pos (dP [] X.a4)))) zA0._auto_1):
  PE X (.Call (.Attribute o m apos) [] [] pos) (λp H Q=>P p H λx e=>∃a C r fs b,x=.ref a/\e a=Z (.ke C r fs)/\T C b/\fs.lookup m=O/\b (x::dvs) e Q E):=by
 intro d s p H Q I h;refine qI (e3 (B d s p H _ I h) λu Y zz=>?_) j;obtain⟨x,e,i,N,a,C,r,fs,b,z,y,j,l,q⟩:=zz;obtain⟨k,f,S,W,R,c,t,F,J,A,hd,M⟩:=hT C b j;subst z;obtain rfl:u=Value.ref a:=N;refine HY i y c t l ?_;exact mX i.ma t.kp (KB (vs:=[.ref a]) F J A hd M i (.cons U .nil) q)
def MT(G:Bg)(g:Nat->Option (br->Option D)):Addr->Sp->Prop:=λC a=>∃c h,g c=Z h/\C=G.ca c/\a=eb G h
def WM(h:PE X (.Call (.Attribute o m apos) (e::es) [] pos) (λz H Q=>tF G f z H λx j=>∃b C u fs I,x=.ref b/\j b=Z (.ke C u fs)/\MT G g C I/\fs.lookup m=O/\qi G a z j λvs p=>I (x::(vs++[])) p Q E)):
  PE X (.Call (.Attribute o m apos) (e::es) [] pos) (tF G (vU g m f a)):=PE.b? h λz H Q l=>by
 obtain⟨F,ρ,M,d,y,R,e,k⟩:=l;obtain⟨c,ns,ds,i,l,w,S,T,W,Y,e5⟩:=Ip e;refine#v[F,ρ,M,_,i,R,S,λv j N s A r=>?_];have r0:=r;obtain⟨b,u,xs,rfl,h1,h2,h3⟩:=r;refine#v[b,_,u,_,_,U,A.sub _ _ h1,#v[c,l,T,U,U],EI W,F,i,j,w,y,A,Y,λys p q B R2 rs=>?_];show eb G l (V.ref b::(ys++[])) q Q E;rw[cf];exact#v[p,_,d,R2.sub,wJ (cm.mono B _ _ r0) rs,e5,λv P t J t2 t3 fr rv=>k v P t (s.t (B.t J)) (R2.fx t3 J t2 fr) rv]
def SR(h:PE X (.Call (.Attribute o m apos) [] [] pos) (λu H Q=>tF G f u H λx a=>∃b C l fs q,x=.ref b/\a b=Z (.ke C l fs)/\MT G g C q/\fs.lookup m=O/\q (x::[]) a Q E)):
  PE X (.Call (.Attribute o m apos) [] [] pos) (tF G (vU g m f vP)):=PE.b? h λu H Q p=>by
 obtain⟨F,ρ,w,d,ρ',R,e,k⟩:=p;obtain⟨c,ns,ds,ρ1,p,N,A,B,I,J,M⟩:=Ip e;cases J;refine#v[F,ρ,w,_,_,R,A,λv a y s j r=>?_];have S:=r;obtain⟨b,l,xs,rfl,P,h2,h3⟩:=r;refine#v[b,_,l,_,_,U,j.sub _ _ P,#v[c,p,B,U,U],EI I,?_];exact#v[a,_,d,j.sub,wJ S wC,M,λv z i t W Y fr T=>k v z i (s.t t) (j.fx Y t W fr) T]
inductive IspI(G:Bg) (c:Nat) (g:br->Option (aB×br)) (vs:bF) (H:Hp) (Q:VK) (_x3:XK):Prop
 |i (p dx:Addr) (us:bF) (H0:Hp) (ds:br) (ns:aB) (es:br) (h0:vs=.ref p::us) (h1:H p=Z (.ke (G.ca c) dx [])) (h2:H0 p=O) (h3:vX H0 H) (h4:a6 G H0 ds us) (h5:g ds=Z (ns,es)) (h6:∀ys dx' H0' H',vX H0 H0'->vX H0' H'->(∀b o,H b=Z o->b≠p->H' b=Z o)->(∀b o,H0' b=Z o->H0 b=Z o\/H b=O)->H0' p=O->H' p=Z (.ke (G.ca c) dx' (ns.zip ys))->ns.length=ys.length->a6 G H0' es ys->Q .U H'):IspI G c g vs H Q _x3
def spI(G:Bg)(c:Nat)(g:br->Option (aB×br)):Sp:=λa H Q _x3=>IspI G c g a H Q _x3
def wu(c:Nat)(g:br->Option (aB×br))(a:FA):FE:=λh=>match a h with
 |some (d,b)=>match g d with
  |some (f,e)=>Z (.obj c f e,b)
  |none=>O
 |none=>O
def WN(hd:∀H,a6 G H dds dvs)(h:PE X e (Yn (G.ca c) (spI G c g) dvs E (qi G a))):PE X e (tF G (wu c (λm=>g (m++dds)) a)):=PE.b? h λσ H Q hh=>by
 obtain⟨F,M,T,d,N,R,e,k⟩:=hh;unfold wu at e;rcases wm (f:=a) (ρ:=M)with y|⟨m,ρ1,y⟩<;>simp only[y]at e
 .cases e
 .cases A:g (m++dds)with
  |none=>simp only[A]at e;cases e
  |some q=>
   obtain⟨ns,es⟩:=q;simp only[A]at e;cases e;refine#v[F,M,T,m,N,R,y,λxs P j s l rs x r p hdx ne=>?_];have I:(ef j r (.f5 x)) x=O:=by rw[vM (λz=>ne z.symm)];exact p
   have J:vX j (ef (ef j r (.f5 x)) x (.ke (G.ca c) r [])):=(vV hdx _).t (vV I _);refine#v[x,r,_,P,m++dds,ns,es,U,vI,l.er p,l.sub.t J,xN rs (hd _),A,λys w W Y S t2 t3 fr C hp hl ry=>#v[U,?_]];have t4:=λb o e=>t3 b o (J b o e) (yA e p);have B:∀b o,W b=Z o->P b=Z o\/j b=O:=λb o e=>by
    rcases fr b o e with q|q
    .exact .inl q
    .cases z:j b with
     |none=>exact .inr U
     |some u=>rw[J b u z]at q;cases q
   have R2:=l.fx t4 S t2 B;have hb:=l.fg p;have R3:=R2.p5 hp C hb (λi t ei to z=>l.apart p i t ei to z);refine k _ _ _ (s.t (S.t (vV C _))) R3 ?_;exact#v[x,w,ys,U,vI,hl,a6.mono (vV C _) _ _ ry]
def wI(h:Nat)(i:Nat)(f:Str)(j:FE):FS:=λl=>match j l with
 |some (d,a)=>match a[i]? with
  |some (.ob c b e)=>if c=h then if b.contains f=γ then O else if e.length=b.length then if b.length<900 then Z (.nx (a.set i (.ob c (b++[f]) (e++[d]))))else O else O else O
  |_=>O
 |none=>O
theorem Mp:∀{a:aB} {b:bF},a.contains f=δ->a.length=b.length->BX f v (a.zip b)=(a++[f]).zip (b++[v])
 |[],[],h,l=>rfl
 |[],x::b,h,l=>by cases l
 |n::a,[],h,l=>by cases l
 |n::a,x::b,h,l=>by
  rw[pO,lG]at h;have c:¬n=f:=λz=>by rw[z]at h;simp at h
  have d:=Mp (v:=v) h.2 (by simpa using l);show BX f v ((n,x)::a.zip b)=_;rw[show BX f v ((n,x)::a.zip b)=(if n=f then (n,v)::a.zip b else (n,x)::BX f v (a.zip b)) from U,ak c,d];rfl
set_option h true
def WO{st:Stmt}(h:PS X st (sFld X.K (EE i) (tF G x) f))(y:Fs X.K (G.ca p)/\BD X.K (G.ca p) f):PS X st (ki G (wI p i f x)):=PS.b? h λE σ H M=>by
 obtain⟨F,j,z,o,R,e,k,k2⟩:=M;unfold wI at e;rcases wm (f:=x) (ρ:=j)with b|⟨d,l,b⟩<;>simp only[b]at e
 .cases e
 .split at e
  .rename_i c N T t;split at e
   .rename_i hcc;subst hcc;split at e
    .cases e
    rename_i hnc;split at e
    .rename_i Y;split at e
     .rename_i W;cases e;refine#v[F,j,z,d,l,R,b,λv S A s m r=>?_];obtain⟨a,q,P,u,B,C,I,w,J⟩:=m.sl i _ t;refine#v[_,zS u,a,_,q,_,U,B,y.1,y.2,by rw[il];omega,?_];have hnf:N.contains f=δ:=by simpa using hnc
      rw[Mp hnf w];refine k _ _ _ s (m.mut t U u (λQ hH=>?_) U);exact#v[a,q,P++[v],U,hH,C,I,by rw[aA,aA,w];rfl,xN J (wJ r wC)]
     .cases e
    .cases e
   .cases e
  .cases e
set_option h false
def stI(c n:Nat)(a:br):bc:=.ob c [] []::w? (n - 1) a
def rl(c h n:Nat)(f:FS):br->Option (aB×br):=λa=>if a.length=h then match f (stI c n a)with
 |some (.nx i)=>match (i:bc)[0]? with
  |some (Sl.ob e d b)=>if e=c then if d.length=b.length then Z (d,b)else O else O
  |_=>O
 |_=>O
 else O
set_option h true
def Iq(h:rl c m n f b=Z q):b.length=m/\∃a,f (stI c n b)=Z (.nx a)/\a[0]?=Z (.ob c q.1 q.2)/\q.1.length=q.2.length:=by
 unfold rl at h;split at h
 .rename_i l;refine#v[l,?_];split at h
  .rename_i a e;split at h
   .rename_i o r p d;split at h
    .rename_i j;split at h
     .rename_i i;subst j;cases h;exact#v[a,e,d,i]
     .cases h
    .cases h
   .cases h
  .cases h
 .cases h
set_option h false
def O7{N:aB}(hN:M+1<=N.length)(h:spI G c (rl c M N.length f) vs H Q E):ki G f { nx:=λ_ H'=>Q .U H',rt:=Q } (L2.start N vs) H:=by
 obtain⟨p,dx,us,H0,ds,ns,es,rfl,A,h0,s,r,e,k⟩:=h;obtain⟨Y,ρ,l,x,z⟩:=Iq e;have gets:∀{i:Nat} {t:Sl},(stI c N.length ds)[i]?=Z t->(i=0/\t=.ob c [] [])\/t=.un\/∃(j:Nat) (d:D),i=j+1/\ds[j]?=Z d/\t=.I d:=λ{i t} e=>by
  cases i with
  |zero=>cases e;exact .inl #v[U,U]
  |succ j=>
   have F:=e;rcases KQ F with rfl|⟨d,l,rfl⟩
   .exact .inr (.inl U)
   .exact .inr (.inr #v[j,d,U,l,U])
 have R:bt G #v[H0,H,[p]] (L2.start N (.ref p::us)) (stI c N.length ds) H0 H:={
  sub:=s
  g0:=vX.refl _
  keep:=λb o e _=>e
  fr:=λb o e=>.inl e
  am:=λa ha=>by
   have y:=by simpa using ha
   subst y;exact#v[_,A]
  len:=by unfold L2.start stI w?;simp only[aA,ae,c7,aU];rw[<-vH r,lZ,Nat.sub_sub,Nat.add_comm 1]
  sl:=λi t e=>by
   rcases gets e with ⟨rfl,rfl⟩|rfl|⟨j,d,rfl,l,rfl⟩
   .exact#v[p,dx,[],Gq U,A,h0,by simp,U,wC]
   .trivial
   .obtain⟨v,x,z⟩:=AL r l;exact#v[v,Gq (by simpa using x),z]
  ap:=λi j t u a hij I J B C=>by
   rcases gets I with ⟨rfl,rfl⟩|rfl|⟨_,_,_,_,rfl⟩
   .rcases gets J with ⟨rfl,rfl⟩|rfl|⟨_,_,_,_,rfl⟩
    .exact aq U hij
    .cases C
    .cases C
   .cases B
   .cases B }
 refine#v[_,_,H0,_,R,l,λσ' q H' T m=>?_,λ_=>U];obtain⟨a,w,W,q1,q2,q3,q4,P,S⟩:=m.sl 0 _ x;have y:=by simpa using q4
 subst y;exact k W w q H' T m.sub (λb o e n=>m.keep b o e (by simpa using n)) m.fr q3 q2 P S
end
def Sl.L:Sl->Option br
 |.Y a=>Z a
 |.pm a=>Z a
 |_=>O
def Sl.putL:Sl->br->Sl
 |.pm _,a=>.pm a
 |_,a=>.Y a
def Sl.tz{s:Sl}(h:s.L=Z a):s.f5=γ:=by cases s<;>first|rfl|cases h
def Sl.putL_L{s:Sl}:(s.putL a).L=Z a:=by cases s<;>rfl
section
variable{G:Bg}{F:Fr}{σ:St}{ρ:bc}{H0 H:Hp}
theorem EG.a3{o:Option V}{s:Sl}{ds:br}(h:EG G F H0 H o s)(e:s.L=Z ds):∃a xs,o=Z (.ref a)/\H a=Z (.a3 xs)/\H0 a=O/\a6 G H0 ds xs:=by
 cases s with
 |Y b=>cases e;obtain⟨a,xs,c,d,f,j,i⟩:=h;exact#v[a,xs,c,d,f,i]
 |pm b=>cases e;obtain⟨a,xs,c,d,f,j,i⟩:=h;exact#v[a,xs,c,d,f,i]
 |_=>cases e
def bt.mutL(R:bt G F σ ρ H0 H)(m:ρ[i]?=Z s)(o:s.L=Z w)(l:(σ[i]?).join=Z (.ref a))(r:a6 G H0 d c):
  bt G F σ (ρ.set i (s.putL d)) H0 (ef H a (.a3 c)):=by
 have ok:=R.sl i s m;rw[l]at ok;refine R.mut m (Sl.tz o) l (λu hH=>?_) (Sl.tz Sl.putL_L);cases s with
 |Y e=>obtain⟨b,t,f,p,h,j,q⟩:=ok;cases f;exact#v[a,c,U,hH,h,j,r]
 |pm e=>obtain⟨b,t,f,p,h,j,q⟩:=ok;cases f;exact#v[a,c,U,hH,h,j,r]
 |_=>cases o
end
def yB(ρ:bc)(i:Nat):Option br:=match ρ[i]? with
 |some s=>s.L
 |none=>O
def Ay(h:yB ρ i=Z a):∃s,ρ[i]?=Z s/\s.L=Z a:=by
 unfold yB at h;cases e:ρ[i]? with
 |none=>rw[e]at h;cases h
 |some s=>rw[e]at h;exact#v[s,U,h]
def putAt(a:bc)(i:Nat)(b:br):bc:=match a[i]? with
 |some s=>a.set i (s.putL b)
 |none=>a
def zT(i:Nat)(f:FE):FE:=λc=>match yB c i with
 |some _=>match f c with
  |some (d,a)=>match yB a i with
   |some b=>if b.length<1000 then Z (.U,putAt a i (b++[d]))else O
   |none=>O
  |none=>O
 |none=>O
section
variable{X:Cx}{G:Bg}
def zU(R:bt G F m ρ e H)(h:yB ρ i=Z o):∃a d,m[i]?=Z (Z (.ref a))/\H a=Z (.a3 d)/\a6 G e o d/\
  (∀b c,a6 G e b c->bt G F m (putAt ρ i b) e (ef H a (.a3 c))):=by
 obtain⟨s,f,j⟩:=Ay h;obtain⟨a,d,l,p,t,q⟩:=(R.sl i s f).a3 j;refine#v[a,d,zS l,p,q,λb c r=>?_];unfold putAt;rw[f];exact R.mutL f j l r
set_option h true
def QN(h:PE X e (tBM G.K "list" KJ (EE i) (qi G (ax f vP)))):PE X e (tF G (zT i f)):=PE.b? h λσ H Q z=>by
 obtain⟨F,c,t,d,M,R,e,k⟩:=z;unfold zT at e;cases j:yB c i with
 |none=>simp only[j]at e;cases e
 |some y=>
  simp only[j]at e;rcases wm (f:=f) (ρ:=c)with l|⟨x,b,l⟩<;>simp only[l]at e
  .cases e
  .cases m:yB b i with
   |none=>simp only[m]at e;cases e
   |some S=>
    simp only[m]at e;split at e
    .rename_i T;cases e;obtain⟨a,J,p,C,Y,_⟩:=zU R j;refine#v[.ref a,p,.inl #v[U,J,e8.of C],F,c,t,[x],b,R,by unfold ax;rw[l];rfl,λys N u s w rs=>?_];obtain⟨v,W,rfl,B,A⟩:=rs;subst A;obtain⟨P,o,q,E,r,I⟩:=zU w m;rw[p]at q;cases q;exact#v[a,o,v,U,U,E,by rw[<-vH r];exact BZ (by omega),k _ _ _ s (I _ _ (xN r (wJ B wC))) Ak]
    .cases e
set_option h false
def Ir(i:Nat)(f:FA):FE:=λd=>match yB d i with
 |some _=>match f d with
  |some (c,a)=>match yB a i with
   |some b=>if b.length+c.length<=1000 then Z (.U,putAt a i (b++c))else O
   |none=>O
  |none=>O
 |none=>O
set_option h true
def QO(h:PE X e (tBM G.K "list" O0 (EE i) (E9 (tH G f) Jy))):PE X e (tF G (Ir i f)):=PE.b? h λσ H Q A=>by
 obtain⟨F,c,u,d,P,R,e,k⟩:=A;unfold Ir at e;cases j:yB c i with
 |none=>simp only[j]at e;cases e
 |some z=>
  simp only[j]at e;rcases wm (f:=f) (ρ:=c)with l|⟨x,b,l⟩<;>simp only[l]at e
  .cases e
  .cases m:yB b i with
   |none=>simp only[m]at e;cases e
   |some Y=>
    simp only[m]at e;split at e
    .rename_i B;cases e;obtain⟨a,M,q,E,s3,_⟩:=zU R j;refine#v[.ref a,q,.inl #v[U,M,e8.of E],F,c,u,x,b,R,l,λp N S w s y C h0 hb W rs=>?_];obtain⟨T,o,r,I,t,J⟩:=zU y m;rw[q]at r;cases r;refine#v[a,p,o,N,U,U,I,C,?_,k _ _ _ s (J _ _ (xN t rs)) Ak];rw[<-vH t,<- vH rs];exact y9 B
    .cases e
set_option h false
def afY(i:Nat):FE:=λa=>match yB a i with
 |some (d::b)=>Z (d,putAt a i b)
 |_=>O
def Iu(r:a6 G b a c)(h:z? a i=Z d):∃v,z? c i=Z v/\cm G b d v:=by
 unfold z? at h ⊢;rw[<-vH r];cases e:ixN a.length i with
 |none=>rw[e]at h;cases h
 |some j=>rw[e]at h;exact AL r h
def nj(i:Nat):FE:=λb=>match b[i]? with
 |some (.Y a)=>Z (.a3 a,b.set i (.I (.a3 a)))
 |some (.dk c a)=>Z (.i0 c a,b.set i (.I (.i0 c a)))
 |some (.I d)=>Z (d,b)
 |_=>O
theorem bt.toIm(R:bt G F σ ρ H0 H)(hi:ρ[i]?=Z s)(hs:(σ[i]?).join=Z (.ref p))(so:s.f5=γ)(A:H p=Z o)(h0:H0 p=O)(hb:F.B p=O)(r:cm G (ef H0 p o) d (.ref p)):
  bt G F σ (ρ.set i (.I d)) (ef H0 p o) H where
 sub:=λb u e=>by
  by_cases hb:b=p
  .subst hb;rw[vI]at e;cases e;exact A
  .rw[vM hb]at e;exact R.sub _ _ e
 g0:=R.g0.t (vV h0 o)
 keep:=R.keep
 fr:=λb u e=>by
  by_cases c:b=p
  .subst c;exact .inr hb
  .rw[vM c]at e;exact R.fr _ _ e
 am:=R.am
 len:=by rw[gB];exact R.len
 sl:=λj t e=>by
  rw[cF]at e;by_cases h:i=j
  .subst h;rw[aj U]at e;split at e
   .cases e;exact#v[_,hs,r]
   .cases e
  .rw[ak h]at e;refine(R.sl j t e).fx (vV h0 o) (λa u _ _ q=>q) λa u z to q q0=>?_;rw[vM (λy=>by subst y;exact R.ap j i t s a (λy=>h y.symm) e hi to so z hs)];exact q0
 ap:=λj k t u b hjk l w f tk C vk=>by
  have n9:∀{m:Nat} {x:Sl},(ρ.set i (.I d))[m]?=Z x->x.f5=γ->ρ[m]?=Z x:=λ{m x} e E=>by
   rw[cF]at e;by_cases h:i=m
   .subst h;rw[aj U]at e;split at e
    .cases e;cases E
    .cases e
   .rw[ak h]at e;exact e
  exact R.ap j k t u b hjk (n9 l f) (n9 w tk) f tk C vk
theorem bt.toImD(R:bt G F σ ρ H0 H)(hi:ρ[i]?=Z s)(hs:(σ[i]?).join=Z (.ref p))(so:s.f5=γ)(h0:H0 p=O)(hb:F.B p=O)(r:cm G (ef H0 p o) d (.ref p)):
  bt G F σ (ρ.set i (.I d)) (ef H0 p o) (ef H p o) where
 sub:=λb u e=>by
  by_cases hb:b=p
  .subst hb;rw[vI]at e ⊢;exact e
  .rw[vM hb]at e ⊢;exact R.sub _ _ e
 g0:=R.g0.t (vV h0 o)
 keep:=λb u e n=>by rw[vM (λz=>by subst z;rw[hb]at e;cases e)];exact R.keep b u e n
 fr:=λb u e=>by
  by_cases c:b=p
  .subst c;exact .inr hb
  .rw[vM c]at e;exact R.fr _ _ e
 am:=λb hm=>by
  by_cases c:b=p
  .subst c;exact#v[o,vI]
  .rw[vM c];exact R.am b hm
 len:=by rw[gB];exact R.len
 sl:=λj t e=>by
  rw[cF]at e;by_cases h:i=j
  .subst h;rw[aj U]at e;split at e
   .cases e;exact#v[_,hs,r]
   .cases e
  .rw[ak h]at e;refine(R.sl j t e).fx (vV h0 o) (λa u z to q=>?_) λa u z to q q0=>?_
   .rw[vM (λy=>by subst y;exact R.ap j i t s a (λy=>h y.symm) e hi to so z hs)];exact q
   .rw[vM (λy=>by subst y;exact R.ap j i t s a (λy=>h y.symm) e hi to so z hs)];exact q0
 ap:=λj k t u b hjk l w f tk A vk=>by
  have n9:∀{m:Nat} {x:Sl},(ρ.set i (.I d))[m]?=Z x->x.f5=γ->ρ[m]?=Z x:=λ{m x} e C=>by
   rw[cF]at e;by_cases h:i=m
   .subst h;rw[aj U]at e;split at e
    .cases e;cases C
    .cases e
   .rw[ak h]at e;exact e
  exact R.ap j k t u b hjk (n9 l f) (n9 w tk) f tk A vk
set_option h true
def ad7(h:PE X e (EE i)):PE X e (tF G (nj i)):=PE.b? (PE.ZY h) λE H Q z=>by
 obtain⟨F,C,u,d,A,R,e,k⟩:=z;unfold nj at e;split at e
 .rename_i r b;cases e;obtain⟨a,q,f,l,c,m,p⟩:=R.sl i _ b;have j:=D8 vI (a6.mono (vV c _) _ _ p);exact#v[_,zS f,.inl (k _ _ _ (vV c _) (R.toIm b f U l c m j) j)]
 .rename_i t r b;cases e;obtain⟨a,q,f,l,c,m,p,y⟩:=R.sl i _ b;refine#v[_,zS f,.inr #v[a,_,l,λo=>?_]];have j:cm G (ef u a (.mr o (.dK (t.zip q)))) (.i0 t r) (.ref a):=by unfold cm;exact#v[a,o,q,U,vI,p,a6.mono (vV c _) _ _ y]
  exact k _ _ _ (vV c _) (R.toImD b f U c m j) j
 .rename_i B b;cases e;obtain⟨v,w,x⟩:=R.sl i _ b;exact#v[v,zS w,.inl (k _ _ _ (vX.refl _) R x)]
 .cases e
set_option h false
def Fm(i:Nat):FA:=λa=>match a[i]? with
 |some (.Y b)=>Z (b,a.set i .un)
 |_=>O
set_option h true
def WQ(h:PE X e (EE i)):PE X e (tH G (Fm i)):=PE.b? h λσ H Q r=>by
 obtain⟨F,ρ,H0,d,ρ',R,e,k⟩:=r;unfold Fm at e;split at e
 .rename_i ds l;cases e;obtain⟨a,xs,h1,h2,h3,h4,h5⟩:=R.sl i _ l;have n9:∀{m:Nat} {x:Sl},(ρ.set i .un)[m]?=Z x->x.f5=γ->m≠i/\ρ[m]?=Z x:=λ{m x} e A=>by
   rw[cF]at e;by_cases h:i=m
   .subst h;rw[aj U]at e;split at e
    .cases e;cases A
    .cases e
   .rw[ak h]at e;exact#v[λz=>h z.symm,e]
  have p:bt G F σ (ρ.set i .un) H0 H:={
   sub:=R.sub,g0:=R.g0,keep:=R.keep,fr:=R.fr,am:=R.am
   len:=by rw[gB];exact R.len
   sl:=λj t e=>by
    rw[cF]at e;by_cases h:i=j
    .subst h;rw[aj U]at e;split at e
     .cases e;trivial
     .cases e
    .rw[ak h]at e;exact R.sl j t e
   ap:=λj k t u b hjk c q o tk y vk=>R.ap j k t u b hjk (n9 c o).2 (n9 q tk).2 o tk y vk }
  refine#v[_,zS h1,k a xs _ _ (vX.refl _) p h2 h3 h4 (λj t c to z=>?_) h5];obtain⟨w,f⟩:=n9 c to;exact R.ap j i t _ a w f l to U z h1
 .cases e
end
set_option h false
def stM(n:Nat)(b a:br):bc:=.pm b::w? (n - 1) a
def YB(b:bc):Option br:=match b with
 |.pm a::_=>Z a
 |_=>O
def fnM(h n:Nat)(f:FS):br->br->Option (D×br):=λe c=>if c.length=h then match f (stM n e c)with
 |some (.rt d b)=>match YB b with
  |some a=>Z (d,a)
  |none=>O
 |some (.rn i b)=>match YB b with
  |some a=>Z (.a3 i,a)
  |none=>O
 |_=>O
 else O
section
variable{X:Cx}{G:Bg}
def cMut(g:br->br->Option (D×br))(i:Nat)(a:FA):FE:=λe=>match yB e i with
 |some _=>match a e with
  |some (f,b)=>match yB b i with
   |some h=>match g h f with
    |some (d,c)=>Z (d,putAt b i c)
    |none=>O
   |none=>O
  |none=>O
 |none=>O
def Walk(G:Bg)(J:It)(h:br)(j:Hp):Prop:=∀(i:Nat) (e a:Hp),vX j e->vX e a->
 (∀d,h[i]?=Z d->J.go i a/\∀x c,J.yld i a x c->∃f,vX e f/\vX f c/\vX a c/\(∀b o,f b=Z o->e b=Z o\/a b=O)/\cm G f d x)/\(i=h.length->J.stop i a)
inductive ItFI(G:Bg) (f:FA) (σ:St) (H:Hp) (R:(It->Hp->Prop)):Prop
 |i (F ρ H0 ds ρ') (h0:bt G F σ ρ H0 H) (h1:f ρ=Z (ds,ρ')) (h2:∀J H0' H',vX H0 H0'->bt G F σ ρ' H0' H'->Walk G J ds H0'->R J H'):ItFI G f σ H R
def L'(G:Bg)(f:FA):TI:=λa H R=>ItFI G f a H R
def PI.b?(h:PI X f e t)(w:∀b H R,d b H R->t b H R):PI X f e d:=λa s b H R I c=>h a s b H R I (w _ _ _ c)
def Iv(h:e8 G.K j a c)(r:a6 G j w c):Walk G (Itl G.K a) w j:=λi q t s p=>by have f:=(s.t p).seq h;refine#v[λd e=>?_,λC=>#v[c,f,by rw[<-vH r,C];exact aI _]];obtain⟨v,l,z⟩:=AL r e;refine#v[#v[c,v,f,l],λx u y=>?_];obtain⟨A,B⟩:=y;have m:=B c f;rw[l]at m;cases m;subst A;exact#v[q,vX.refl _,p,vX.refl _,λb o e=>.inl e,cm.mono s _ _ z]
def SU(h:e? G.K j a c)(r:a6 G j w c):Walk G (Itt G.K a) w j:=λi q t s p=>by have f:=e?.mono (s.t p) h;refine#v[λd e=>?_,λC=>#v[c,f,by rw[<-vH r,C];exact aI _]];obtain⟨v,l,z⟩:=AL r e;refine#v[#v[c,v,f,l],λx u y=>?_];obtain⟨A,B⟩:=y;have m:=B c f;rw[l]at m;cases m;subst A;exact#v[q,vX.refl _,p,vX.refl _,λb o e=>.inl e,cm.mono s _ _ z]
def iL(f:FE):FA:=λc=>match f c with
 |some (.a3 b,a)=>Z (b,a)
 |some (.nq b,a)=>Z (b,a)
 |_=>O
def iT(f:FE):FA:=λc=>match f c with
 |some (.a7 b,a)=>Z (b,a)
 |_=>O
set_option h true
def Mq(h:PI X w e (RU G.K (tF G f))):PI X w e (L' G (iL f)):=PI.b? h λz H R u=>by
 obtain⟨F,q,p,y,x,R,e,k⟩:=u;unfold iL at e;split at e
 .rename_i i o j;cases e;refine#v[F,q,p,_,_,R,j,λv t d s b r=>?_];obtain⟨a,m,rfl,c,l⟩:=r;exact#v[a,U,#v[m,b.sub.seq (e8.of c)],k _ _ _ s b (Iv (e8.of c) l)]
 .rename_i i o j;cases e;refine#v[F,q,p,_,_,R,j,λv t d s b r=>?_];obtain⟨a,m,rfl,c,l⟩:=r;exact#v[a,U,#v[m,b.sub.seq c],k _ _ _ s b (Iv c l)]
 .cases e
def WR(h:PI X p e (Zx G.K (tF G f))):PI X p e (L' G (iT f)):=PI.b? h λz H R m=>by
 obtain⟨F,t,d,y,u,R,e,k⟩:=m;unfold iT at e;split at e
 .rename_i j w l;cases e;refine#v[F,t,d,_,_,R,l,λv x i s b r=>?_];obtain⟨a,q,rfl,c,o⟩:=r;exact#v[a,U,#v[q,e?.mono b.sub c],k _ _ _ s b (SU c o)]
 .cases e
set_option h false
def Iw(lo:Int)(n:Nat):br:=(aC n).map λ(i:Nat)=>D.int (lo+(i:Int))
def Mu{lo:Int}:Walk G (Itr lo n) (Iw lo n) p:=λi c f s m=>by
 refine#v[λd e=>?_,λl=>by show n<=i;rw[l];simp[Iw]];unfold Iw at e;rw[bg]at e;by_cases a:i<n
 .rw[lQ a]at e;cases e;refine#v[a,λx h y=>?_];obtain⟨j,rfl⟩:=y;subst j;exact#v[c,vX.refl _,m,vX.refl _,λb o e=>.inl e,yf _]
 .rw[gj (by simpa using a)]at e;cases e
def r?(f:FE):FA:=λb=>match f b with
 |some (.int n,a)=>if -1000000<=n/\n<=1000000 then Z (Iw 0 n.toNat,a)else O
 |_=>O
set_option h true
def NZ(h:PI X m e (Yl (qi G (ax f vP)))):PI X m e (L' G (r? f)):=PI.b? h λy H R i=>by
 obtain⟨F,o,a,t,p,R,e,k⟩:=i;unfold r? at e;split at e
 .rename_i n q d;split at e
  .rename_i u;cases e;refine#v[F,o,a,[.int n],_,R,by unfold ax;rw[d];rfl,λx r b s c rs=>?_];obtain⟨v,w,rfl,l,j⟩:=rs;subst j l;exact#v[n,U,by omega,by omega,k _ _ _ s c Mu]
  .cases e
 .cases e
set_option h false
def fu(g:FG)(b:FS):br->FS
 |[],c=>Z (.nx c)
 |d::r,c=>match g d c with
  |none=>O
  |some e=>match b e with
   |some (.nx a)=>fu g b r a
   |some (.ct a)=>fu g b r a
   |some (.bk a)=>Z (.nx a)
   |some (.rt d a)=>Z (.rt d a)
   |some (.rn d a)=>Z (.rn d a)
   |none=>O
def xS(s:FA)(g:FG)(b:FS):FS:=λd=>match s d with
 |some (c,a)=>fu g b c a
 |none=>O
def WS{st:Stmt}(h:PS X st (Zz (L' G s) (tFG G n g) (ki G b))):PS X st (ki G (xS s g b)):=PS.b? h λE σ H hh=>by
 obtain⟨F,Y,H0,o,R,e,k,k2⟩:=hh;unfold xS at e;rcases wm (f:=s) (ρ:=Y)with Q|⟨l,C,Q⟩<;>simp only[Q]at e
 .cases e
 .refine#v[F,Y,H0,l,C,R,Q,λJ N H1' s1 R1 wk=>?_];refine#v[λi m σ H=>m=l.length - i/\i<=l.length/\∃c r,vX N r/\bt G F σ c r H/\fu g b (l.drop i) c=Z o,#v[_,U,bR _,C,N,vX.refl _,R1,e],?_];rintro i m σi B ⟨rfl,hi,c,r,A,I,a⟩;by_cases hlt:i<l.length
  .have ed:=iR hlt;rw[ed]at a;unfold fu at a;obtain⟨go,yl⟩:=(wk i r B A I.sub).1 l[i] (aO hlt);refine .inr #v[go,λp z=>∃c r,vX N r/\bt G F p c r z/\fu g b (l.drop (i+1)) c=Z o,λp z q=>#v[l.length - (i+1),by omega,U,hlt,q],λx z y=>?_];obtain⟨H2,M,t2,t3,t4,t5⟩:=yl x z y;have R2:=I.fx t3 M t2 t4;cases S:g l[i] c with
   |none=>simp only[S]at a;cases a
   |some w=>
    simp only[S]at a;refine#v[F,c,H2,_,w,R2,t5,S,λσ3 _ R3=>?_];have T:=k.z3 (s1.t (A.t M));cases u:b w with
    |none=>simp only[u]at a;cases a
    |some q=>
     refine#v[F,w,H2,q,R3,u,?_,λ_=>U];cases q with
     |nx j=>simp only[u]at a;exact λp t z W P=>#v[j,t,A.t (M.t W),P,a]
     |ct j=>simp only[u]at a;exact λp t z W P=>#v[j,t,A.t (M.t W),P,a]
     |bk j=>simp only[u]at a;cases a;exact T
     |rt d j=>simp only[u]at a;cases a;exact T
     |rn d j=>simp only[u]at a;cases a;exact T
  .have ez:l.drop i=[]:=oX (by omega);rw[ez]at a;cases a;exact .inl #v[(wk i r B A I.sub).2 (by omega),k _ _ _ (s1.t A) I]
def whL(c:FT)(b:FS):Nat->FS
 |0,_=>O
 |n+1,f=>match c f with
  |some (δ,e)=>Z (.nx e)
  |some (γ,e)=>match b e with
   |some (.nx a)=>whL c b n a
   |some (.ct a)=>whL c b n a
   |some (.bk a)=>Z (.nx a)
   |some (.rt d a)=>Z (.rt d a)
   |some (.rn d a)=>Z (.rn d a)
   |none=>O
  |none=>O
def QP{st:Stmt}(n:Nat)(h:PS X st (RR (l0 G c) (ki G b))):PS X st (ki G (whL c b n)):=PS.b? h λE P H Y=>by
 obtain⟨F,N,B,o,R,e,k,k2⟩:=Y;refine#v[λm P H=>∃i r,vX B r/\bt G F P i r H/\whL c b m i=Z o,#v[n,N,B,vX.refl _,R,e],?_];rintro m σi T ⟨i,r,A,W,a⟩;cases m with
 |zero=>cases a
 |succ m=>
  unfold whL at a;rcases wm (f:=c) (ρ:=i)with x|⟨t,w,x⟩
  .simp only[x]at a;cases a
  .refine#v[F,i,r,t,w,W,x,λQ S z M=>?_];cases t with
   |false=>simp only[x]at a;cases a;exact KN (k _ _ _ (A.t z) M)
   |true=>
    simp only[x]at a;refine KO #v[λl y=>∃i r,vX B r/\bt G F l i r y/\whL c b m i=Z o,λl y q=>#v[m,dJ m,q],?_];have I:=k.z3 (A.t z);cases u:b w with
    |none=>simp only[u]at a;cases a
    |some q=>
     refine#v[F,w,Q,q,M,u,?_,λs=>U];cases q with
     |nx j=>simp only[u]at a;exact λl p y J C=>#v[j,p,A.t (z.t J),C,a]
     |ct j=>simp only[u]at a;exact λl p y J C=>#v[j,p,A.t (z.t J),C,a]
     |bk j=>simp only[u]at a;cases a;exact I
     |rt d j=>simp only[u]at a;cases a;exact I
     |rn d j=>simp only[u]at a;cases a;exact I
end
def Sl.d3:Sl->Sl
 |.I d=>.I d
 |.Y a=>.pm a
 |.pm a=>.pm a
 |_=>.un
def HD(k:Nat)(d3:List Nat)(ρ:bc):bc:=fw k .un++d3.map λj=>((ρ[j]?).getD .un).d3
def zG:List Nat->bc->bc->Option bc
 |[],_,a=>Z a
 |j::d3,t::b,a=>match yB a j with
  |some _=>match t with
   |.pm c=>zG d3 b (putAt a j c)
   |_=>O
  |none=>zG d3 b a
 |_::_,[],_=>O
def Eo(k:Nat)(d3:List Nat)(g:FG)(ft:FT)(f:FE):br->bc->Option (br×bc)
 |[],c=>Z ([],c)
 |d::r,c=>match g d (HD k d3 c)with
  |none=>O
  |some h=>match ft h with
   |some (γ,b)=>match f b with
    |some (x,i)=>match zG d3 (i.drop k) c with
     |some a=>match Eo k d3 g ft f r a with
      |some (j,e)=>Z (x::j,e)
      |none=>O
     |none=>O
    |none=>O
   |some (δ,b)=>match zG d3 (b.drop k) c with
    |some a=>Eo k d3 g ft f r a
    |none=>O
   |none=>O
def vE(k:Nat)(d3:List Nat)(s:FA)(g:FG)(ft:FT)(fe:FE):FA:=λc=>match s c with
 |some (b,a)=>if b.length<=1000 then Eo k d3 g ft fe b a else O
 |none=>O
def wH:FT:=λa=>Z (γ,a)
theorem Cs:∀{d3:List Nat} {A f b:bc},zG d3 A f=Z b->b.length=f.length/\
  (∀(j:Nat) (c:Sl),b[j]?=Z c->∃s,f[j]?=Z s/\((c=s/\(s.L≠O->j∉d3))\/∃(m:Nat) (i a:br),d3[m]?=Z j/\A[m]?=Z (Sl.pm i)/\s.L=Z a/\c=s.putL i))
 |[],A,f,b,h=>by cases h;exact#v[U,λj c e=>#v[c,e,.inl #v[U,λ_ z=>by cases z]]]
 |F::d3,[],f,b,h=>by cases h
 |F::d3,t::A,f,b,h=>by
  unfold zG at h;cases l:yB f F with
  |none=>
   simp only[l]at h;obtain⟨B,C⟩:=Cs h;refine#v[B,λj c e=>?_];obtain⟨s,r,q⟩:=C j c e;refine#v[s,r,?_];rcases q with ⟨rfl,q⟩|⟨m,i,a,u,w,q3,x⟩
   .refine .inl #v[U,λz y=>?_];rcases aM.1 y with y|y
    .subst y;unfold yB at l;rw[r]at l;exact z l
    .exact q z y
   .exact .inr #v[m+1,i,a,u,w,q3,x]
  |some p=>
   simp only[l]at h;cases t with
   |pm i=>
    simp only at h;obtain⟨H,r,G⟩:=Ay l;unfold putAt at h;rw[r]at h;simp only at h;obtain⟨B,C⟩:=Cs h;refine#v[by rw[B,gB],λj c e=>?_];obtain⟨s,o,q⟩:=C j c e;by_cases E:F=j
    .subst E;rw[cF,aj U]at o;split at o
     .cases o;refine#v[H,r,.inr ?_];rcases q with ⟨rfl,q⟩|⟨m,d,a,u,w,q3,x⟩
      .exact#v[0,i,p,U,U,G,U]
      .refine#v[m+1,d,p,u,w,G,?_];rw[x];cases H<;>rfl
     .cases o
    .rw[cF,ak E]at o;refine#v[s,o,?_];rcases q with ⟨rfl,q⟩|⟨m,d,a,u,w,q3,x⟩
     .refine .inl #v[U,λz y=>?_];rcases aM.1 y with y|y
      .exact E y.symm
      .exact q z y
     .exact .inr #v[m+1,d,a,u,w,q3,x]
   |_=>cases h
def JD(d3:List Nat)(b:St)(ρ:bc):List Addr:=d3.filterMap λj=>match yB ρ j,(b[j]?).join with
 |some _,Z (.ref a)=>Z a
 |_,_=>O
set_option h true
def DE:a∈JD d3 i h ↔ ∃j∈d3,(∃b,yB h j=Z b)/\(i[j]?).join=Z (.ref a):=by
 unfold JD;rw[ja];constructor
 .rintro⟨j,f,e⟩;refine#v[j,f,?_];split at e
  .rename_i b l c d;cases e;exact#v[#v[b,c],d]
  .cases e
 .rintro⟨j,f,⟨b,c⟩,d⟩;refine#v[j,f,?_];rw[c,d]
section
variable{X:Cx}{G:Bg}{F:Fr}{σ:St}{ρ:bc}{H0 H:Hp}
set_option h false
def Iy(h:(HD k d3 ρ)[i]?=Z s):s=.un\/∃m j,i=k+m/\d3[m]?=Z j/\s=((ρ[j]?).getD .un).d3:=by
 unfold HD at h;by_cases a:i<k
 .rw[gh (by simpa using a),jJ,aj a]at h;cases h;exact .inl U
 .rw[gf (by simpa using qy a),c7,bg]at h;cases e:d3[i - k]? with
  |none=>rw[e]at h;cases h
  |some j=>rw[e]at h;cases h;exact .inr #v[i - k,j,by omega,e,U]
def Fn(h:d3[m]?=Z j):((zm k d3 σ)[k+m]?).join=(σ[j]?).join:=by unfold zm;rw[gf (by simp),c7,show k+m - k=m by omega,bg,h];rfl
theorem bt.d3(R:bt G F σ ρ H0 H)(k:Nat)(d3:List Nat)(nd:d3.Nodup):bt G #v[H0,H,JD d3 σ ρ] (zm k d3 σ) (HD k d3 ρ) H0 H where
 sub:=R.sub
 g0:=vX.refl _
 keep:=λb o e _=>e
 fr:=λb o e=>.inl e
 am:=λa ha=>by obtain⟨j,q,⟨ds,f⟩,p⟩:=DE.1 ha;obtain⟨s,y,A⟩:=Ay f;obtain⟨I,xs,h1,h2,_⟩:=(R.sl j s y).a3 A;rw[p]at h1;cases h1;exact#v[_,h2]
 len:=by unfold zm HD;rw[aA,aA,c7,c7,ae,ae]
 sl:=λi s e=>by
  rcases Iy e with rfl|⟨m,j,rfl,f,rfl⟩
  .trivial
  .rw[Fn f];cases p:ρ[j]? with
   |none=>trivial
   |some s=>
    have ok:=R.sl j s p;have mem:∀{a:Addr} {ds:br},s.L=Z ds->(σ[j]?).join=Z (.ref a)->a∈JD d3 σ ρ:=λh1 h2=>DE.2 #v[j,bV f,#v[_,by unfold yB;rw[p];exact h1],h2];cases s with
    |un=>trivial
    |I d=>exact ok
    |Y ds=>obtain⟨a,xs,h1,h2,h3,h4,h5⟩:=ok;exact#v[a,xs,h1,h2,h3,mem U h1,h5]
    |pm ds=>obtain⟨a,xs,h1,h2,h3,h4,h5⟩:=ok;exact#v[a,xs,h1,h2,h3,mem U h1,h5]
    |dk ks ds=>trivial
    |ob c ns ds=>trivial
 ap:=λi J s t a hii e x so to v w=>by
  rcases Iy e with rfl|⟨m,j,rfl,f,rfl⟩
  .cases so
  rcases Iy x with rfl|⟨M,u,rfl,l,rfl⟩
  .cases to
  rw[Fn f]at v;rw[Fn l]at w;have f5:∀{j:Nat},(((ρ[j]?).getD Sl.un).d3).f5=γ->∃s,ρ[j]?=Z s/\s.f5=γ:=λ{j} h=>by
   cases z:ρ[j]? with
   |none=>rw[z]at h;cases h
   |some s=>rw[z]at h;refine#v[s,U,?_];cases s<;>first|rfl|cases h
  obtain⟨s,z,E⟩:=f5 so;obtain⟨B,C,r⟩:=f5 to;by_cases q:j=u
  .subst q;have:=(List.getElem?_inj (bY.1 f).1 nd).1 (f.t l.symm);exact hii (by rw[this])
  .exact R.ap j u s B a q z C E r v w
theorem bt.uncap(R:bt G F σ ρ H0 H){k:Nat}{d3:List Nat}{f:St}{r ρ':bc}{H1 l:Hp}(c:bt G #v[H0,H,JD d3 σ ρ] f r H1 l)(hd:f.drop k=(zm k d3 σ).drop k)(hu:zG d3 (r.drop k) ρ=Z ρ'):bt G F σ ρ' H1 l:=by
 obtain⟨hl,S⟩:=Cs hu;have E:∀{m j:Nat},d3[m]?=Z j->(f[k+m]?).join=(σ[j]?).join:=λ{m j} e=>by
  have q:(f.drop k)[m]?=((zm k d3 σ).drop k)[m]?:=by rw[hd]
  rw[eZ,eZ]at q;rw[q];exact Fn e
 have nA:∀{j:Nat} {s:Sl} {a:Addr},ρ[j]?=Z s->s.f5=γ->(σ[j]?).join=Z (.ref a)->(s.L≠O->j∉d3)->a∉JD d3 σ ρ:=λ{j s a} e so z hn ha=>by
  obtain⟨i,hi,⟨ds,d⟩,M⟩:=DE.1 ha;obtain⟨t,p,C⟩:=Ay d;by_cases hij:i=j
  .subst hij;rw[e]at p;cases p;exact hn (by rw[C];simp) hi
  .exact R.ap i j t s a hij p e (Sl.tz C) so M z
 have hA:∀a∈JD d3 σ ρ,F.B a=O\/a∈F.A:=λa ha=>by obtain⟨i,hi,⟨ds,d⟩,M⟩:=DE.1 ha;obtain⟨t,p,C⟩:=Ay d;obtain⟨Q,u,h1,h2,h3,h4⟩:=(R.sl i t p).at (Sl.tz C);rw[M]at h1;cases h1;exact h4
 have own':∀{j:Nat} {h:Sl},ρ'[j]?=Z h->h.f5=γ->∃s,ρ[j]?=Z s/\s.f5=γ:=λ{j h} e so=>by
  obtain⟨s,d,q⟩:=S j h e;rcases q with ⟨rfl,q⟩|⟨m,ds,I,q1,q2,q3,q4⟩
  .exact#v[h,d,so]
  .exact#v[s,d,Sl.tz q3]
 exact {
  sub:=c.sub
  g0:=R.g0.t c.g0
  keep:=λb o e n=>by
   refine c.keep b o (R.keep b o e n) λha=>?_;rcases hA b ha with q|q
   .rw[q]at e;cases e
   .exact n q
  fr:=λb o e=>by
   rcases c.fr b o e with q|q
   .exact R.fr b o q
   .exact .inr (R.fg q)
  am:=λa ha=>by
   obtain⟨o,q⟩:=R.am a ha;by_cases z:a∈JD d3 σ ρ
   .exact c.am a z
   .exact#v[o,c.keep a o q z]
  len:=by rw[hl];exact R.len
  sl:=λj h e=>by
   obtain⟨s,d,q⟩:=S j h e;rcases q with ⟨rfl,q⟩|⟨m,ds,I,q1,q2,q3,q4⟩
   .refine(R.sl j h d).fx c.g0 (λa u z so y=>c.keep a u y (nA d so z q)) λa u z so y T=>?_;cases w:H1 a with
    |none=>rfl
    |some o=>
     rcases c.fr a o w with x|x
     .have N:H0 a=Z o:=x;rw[N]at T;cases T
     .have N:H a=O:=x;rw[N]at y;cases y
   .rw[eZ]at q2;obtain⟨a,xs,h1,h2,h3,h4,h5⟩:=c.sl _ _ q2;rw[E q1]at h1;have ok:=R.sl j s d;subst q4;cases s with
    |Y J=>obtain⟨Q,P,g1,g2,g3,g4,g5⟩:=ok;rw[h1]at g1;cases g1;exact#v[a,xs,h1,h2,h3,g4,h5]
    |pm J=>obtain⟨Q,P,g1,g2,g3,g4,g5⟩:=ok;rw[h1]at g1;cases g1;exact#v[a,xs,h1,h2,h3,g4,h5]
    |_=>cases q3
  ap:=λi j s t a hij W Y so to v v'=>by
   obtain⟨s0,z,zo⟩:=own' W so;obtain⟨t0,y,yo⟩:=own' Y to;exact R.ap i j s0 t0 a hij z y zo yo v v' }
def DF{k:Nat}(h:rh σ ρ p)(f:zG d3 t ρ=Z a):rh σ a p:=λi c e so=>by
 obtain⟨s,b,q⟩:=(Cs f).2 i c e;rcases q with ⟨rfl,q⟩|⟨m,j,d,l,o,q3,r⟩
 .exact h i c b so
 .exact h i s b (Sl.tz q3)
inductive CI(G:Bg) (F:Fr) (σ:St) (H1:Hp) (p:Addr) (k:Nat) (d3:List Nat) (g:FG) (ft:FT) (fe:FE) (ds es:br) (ρ':bc) (i m:Nat) (acc:bF) (H2:Hp):Prop
 |mk (ρi:bc) (Hi:Hp) (dn et:br):m=ds.length - i->i<=ds.length->vX H1 Hi->bt G F σ ρi Hi H2->H2 p=Z (.a3 acc)->Hi p=O->rh σ ρi p->a6 G Hi dn acc->dn.length<=i->Eo k d3 g ft fe (ds.drop i) ρi=Z (et,ρ')->es=dn++et->CI G F σ H1 p k d3 g ft fe ds es ρ' i m acc H2
set_option h true
def KR{d3:List Nat}(nd:d3.Nodup):∀σ H Q,tH G (vE k d3 s g ft fe) σ H Q->G3 (L' G s) (tFG G k g) (l0 G ft) (tF G fe) k d3 σ H Q:=λσ H Q hh=>by
 obtain⟨F,ρ,H0,es,ρ',R,e,kk⟩:=hh;unfold vE at e;rcases wm (f:=s) (ρ:=ρ)with e1|⟨d,ρ1,e1⟩<;>simp only[e1]at e
 .cases e
 .split at e
  .rename_i hlen;refine#v[F,ρ,H0,d,ρ1,R,e1,λJ H1 H1' s1 P wk p T=>?_];refine#v[CI G F σ H1 p k d3 g ft fe d es ρ',
    #v[_,ρ1,H1,[],es,U,bR _,vX.refl _,P.ff T _,vI,P.er T,P.apart T,wC,aI _,e,U],?_]
   rintro i m acc H2 ⟨c,Hi,dn,et,rfl,hi,si,Ri,C,W,apt,rs,hdn,a,rfl⟩;by_cases hlt:i<d.length
   .have ed:=iR hlt;rw[ed]at a;unfold Eo at a;obtain⟨go,yl⟩:=(wk i Hi H2 si Ri.sub).1 d[i] (aO hlt);refine .inr #v[go,λx H3 y=>?_];obtain⟨I,t1,t2,t3,t4,t5⟩:=yl x H3 y;have R2:=Ri.fx t3 t1 t2 t4;have Y:=t3 _ _ C;have hpj:I p=O:=by
     cases w:I p with
     |none=>rfl
     |some o=>
      rcases t4 p o w with z|z
      .rw[W]at z;cases z
      .rw[C]at z;cases z
    have RC:=R2.d3 k d3 nd;have npA:p∉JD d3 σ c:=λz=>by obtain⟨j,_,⟨ds',q1⟩,q2⟩:=DE.1 z;obtain⟨t,q3,q4⟩:=Ay q1;exact apt j t q3 (Sl.tz q4) q2
    cases e2:g d[i] (HD k d3 c)with
    |none=>simp only[e2]at a;cases a
    |some E=>
     simp only[e2]at a;refine#v[_,_,I,d[i],E,RC,t5,e2,λσ4 B R4=>#v[B,?_]];rcases wm (f:=ft) (ρ:=E)with S|⟨b,l,S⟩
     .simp only[S]at a;cases a
     .refine#v[_,E,I,b,l,R4,S,λH5 H5' s5 R5=>?_];have keepP:∀{σ':St} {ρ'':bc} {Ha N:Hp},bt G #v[I,H3,JD d3 σ c] σ' ρ'' Ha N->N p=Z (.a3 acc)/\Ha p=O:=λRz=>by
       refine#v[Rz.keep p _ Y npA,?_];refine Option.eq_none_iff_forall_ne_some.2 λo M=>?_;rcases Rz.fr p o M with z|z
       .have z':I p=Z o:=z;rw[hpj]at z';cases z'
       .have z':H3 p=O:=z;rw[Y]at z';cases z'
      cases b with
      |false=>
       simp only[S]at a;refine KN ?_;cases h:zG d3 (l.drop k) c with
       |none=>simp only[h]at a;cases a
       |some r=>simp only[h]at a;obtain⟨w1,M⟩:=keepP R5;exact#v[d.length - (i+1),by omega,r,H5,dn,et,U,hlt,si.t (t1.t s5),R2.uncap R5 B h,w1,M,DF (k:=k) apt h,a6.mono (t1.t s5) _ _ rs,by omega,a,U]
      |true=>
       simp only[S]at a;refine KO ?_;rcases wm (f:=fe) (ρ:=l)with e5|⟨x5,ρ5,e5⟩
       .simp only[e5]at a;cases a
       .simp only[e5]at a;refine#v[_,l,H5,x5,ρ5,R5,e5,λv H6 H6' s6 R6 rv=>?_];obtain⟨w1,M⟩:=keepP R6;cases h:zG d3 (ρ5.drop k) c with
        |none=>simp only[h]at a;cases a
        |some r=>
         simp only[h]at a;cases e6:Eo k d3 g ft fe (d.drop (i+1)) r with
         |none=>simp only[e6]at a;cases a
         |some q=>
          obtain⟨rest',ρz⟩:=q;simp only[e6]at a;cases a;have A:=R2.uncap R6 B h;have lacc:=(vH rs).symm;refine#v[acc,w1,BZ (by omega),d.length - (i+1),by omega,r,H6,dn++[x5],rest',U,hlt,si.t (t1.t (s5.t s6)),?_,vI,M,DF (k:=k) apt h,xN (a6.mono (t1.t (s5.t s6)) _ _ rs) (wJ rv wC),by rw[aA,cU];omega,e6,by rw[b9];rfl];exact {
           sub:=λb o e=>by rw[vM (λz=>by rw[z,M]at e;cases e)];exact A.sub b o e
           g0:=A.g0
           keep:=λb o e n=>by rw[vM (λz=>by subst z;rw[P.fg T]at e;cases e)];exact A.keep b o e n
           fr:=A.fr
           am:=λb hb=>by
            by_cases z:b=p
            .subst z;exact#v[_,vI]
            .rw[vM z];exact A.am b hb
           len:=A.len
           sl:=λj t ej=>(A.sl j t ej).fx (vX.refl _) (λb u z to q=>by rw[vM (λy=>DF (k:=k) apt h j t ej to (by rw[z,y]))];exact q) λb u _ _ _ q=>q
           ap:=A.ap }
   .have ez:d.drop i=[]:=oX (by omega);rw[ez]at a;cases a;rw[cf]at kk;exact .inl #v[(wk i Hi H2 si Ri.sub).2 (by omega),kk p acc Hi H2 (s1.t si) Ri C W (P.fg T) apt rs]
  .cases e
set_option h false
def SV{d3:List Nat}(c:d3.Nodup)(h:PE X e (G3 (L' G s) (tFG G k g) (l0 G b) (tF G a) k d3)):PE X e (tH G (vE k d3 s g b a)):=PE.b? h (KR c)
def SW:PIf X [] (l0 G wH):=λa s σ H Q I h=>by obtain⟨F,ρ,H0,b,c,R,e,k⟩:=h;cases e;exact Wf a s σ H Q I (k _ _ (vX.refl _) R)
end
def yC:D->Bool
 |.U=>γ|.X _=>γ|.int _=>γ|.str _=>γ|_=>δ
def vD:D->V
 |.U=>.U|.X b=>.X b|.int i=>.int i|.str x=>.str x|_=>.U
section
variable{X:Cx}{G:Bg}{H:Hp}
def zV{d:D}{v:V}(h:cm G H d v)(f:yC d=γ):v=vD d:=by cases d<;>first|(unfold cm at h;exact h)|cases f
def Fo{d:D}(f:yC d=γ):∀H,cm G H d (vD d):=λH=>by cases d<;>first|(unfold cm;rfl)|cases f
theorem Gs:∀{a:br} {b:bF},a6 G H a b->a.all yC=γ->b=a.map vD
 |[],b,h,f=>by unfold a6 at h;exact h
 |d::a,b,h,f=>by obtain⟨v,r,rfl,c,e⟩:=h;rw[gG,aW]at f;rw[aV,zV c f.1,Gs e f.2]
def Mw{d:D}(f:yC d=γ):El (vD d)=γ:=by cases d<;>first|rfl|cases f
theorem J1:∀{a:br},a.all yC=γ->(a.map vD).all El=γ
 |[],_=>rfl
 |d::a,f=>by rw[gG,aW]at f;rw[aV,gG,Mw f.1,J1 f.2];rfl
def gi.or{f:ab->ab->Sem ab}{r b:R2}(h:gi X f r)(i:gi X f b):gi X f (λx y H Q=>r x y H Q\/b x y H Q):=λa s e H x y v u Q I c d q=>q.elim (h a s e H x y v u Q I c d) (i a s e H x y v u Q I c d)
def i1.or{r d:R2}{g c:D->D->Option D}(h:i1 G r g)(j:i1 G d c):i1 G (λx y H Q=>r x y H Q\/d x y H Q) (λx y=>match g x y with|some z=>Z z|none=>c x y):=λx y z b H v u Q e s f i k=>by
 cases a:g x y with
 |some w=>simp only[a]at e;cases e;exact .inl (h x y _ b H v u Q a s f i k)
 |none=>simp only[a]at e;exact .inr (j x y z b H v u Q e s f i k)
def dI(C:Int->Int->Bool)(g:Int->Int->D):D->D->Option D
 |.int a,.int b=>if C a b=γ then Z (g a b)else O
 |_,_=>O
set_option h true
def Mx{C:Int->Int->Bool}{d:Int->Int->Prop}{g:Int->Int->D}{f:Int->Int->V}(hC:∀a b,C a b=γ->d a b)(h:∀a b,yC (g a b)=γ/\vD (g a b)=f a b):i1 G (rI d f) (dI C g):=λx y z m H v u Q e s j l k=>by
 unfold dI at e;split at e
 .rename_i a b;split at e
  .rename_i i;cases e;exact#v[a,b,j,l,hC _ _ i,by rw[<-(h a b).2];exact k _ λc t=>Fo (h a b).1 c]
  .cases e
 .cases e
def EJ{g:Int->Int->D}{d:Int->Int->V}(f:∀a b,yC (g a b)=γ/\vD (g a b)=d a b):i1 G (Bx d) (dI (λt t=>γ) g):=λx y z j H v u Q e s h i k=>by
 unfold dI at e;split at e
 .rename_i a b;split at e
  .cases e;exact#v[a,b,h,i,by rw[<-(f a b).2];exact k _ λc t=>Fo (f a b).1 c]
  .cases e
 .cases e
set_option h false
def wF:=dI (λt t=>γ) λa b=>.int (a+b)
def Ep:=dI (λt t=>γ) λa b=>.int (a - b)
def EK(a:Int):Bool:=decide (-(2 ^ 64)<a)&&decide (a<2 ^ 64)
def ym:=dI (λa b=>EK a||EK b) λa b=>.int (a * b)
def vZ:=dI (λt b=>decide (0<b)) λa b=>.int (a % b)
def wY:=dI (λt b=>decide (0<b)&&decide (b<1073741824)) λa b=>.int (a / b)
def SX:=dI (λa b=>decide (0<=b)&&decide (b<=1000000)&&decide (a.natAbs<2 ^ 64)) λa b=>.int (a ^ b.toNat)
def N0:=dI (λt t=>γ) λa b=>.X (decide (a<b))
def DG:=dI (λt t=>γ) λa b=>.X (decide (b<a))
set_option r "zW a b;dGeI b a" in def ϑ0:=dI (λt t=>γ) λa b=>.X (decide (ϑ1<=ϑ2))
def aaw:i1 G (Bx λi j=>.int (i+j)) wF:=EJ λt t=>#v[U,U]
def aax:i1 G (Bx λi j=>.int (i - j)) Ep:=EJ λt t=>#v[U,U]
def aay:i1 G (rI VT λi j=>.int (i * j)) ym:=Mx (λa b h=>by
 unfold EK at h;simp only[ip,aW,bK]at h;exact h) λt t=>#v[U,U]
def aaz:i1 G (rI (λt j=>0<j) λi j=>.int (i % j)) vZ:=Mx (λa b h=>by simpa using h) λt t=>#v[U,U]
def aaA:i1 G (rI ZJ λi j=>.int (i / j)) wY:=Mx (λa b h=>by unfold ZJ;simpa using h) λt t=>#v[U,U]
def aaB:i1 G (rI CPow λi j=>.int (i ^ j.toNat)) SX:=Mx (λa b h=>by
 simp only[aW,bK]at h;exact#v[h.1.1,h.1.2,h.2]) λt t=>#v[U,U]
set_option r "d9 i j N0;eb j i DG" in def aϑ0:i1 G (Bx λi j=>.X (decide (ϑ1<ϑ2))) ϑ3:=EJ λt t=>#v[U,U]
set_option r "a i j zW;c j i dGeI" in def aeϑ0:i1 G (Bx λi j=>.X (decide (ϑ1<=ϑ2))) ϑ3:=EJ λt t=>#v[U,U]
def DH:D->D->Option D
 |.str a,.str b=>if a.length+b.length<=100000 then Z (.str (a++b))else O
 |_,_=>O
def IA{n:Nat}(h:n<=100000):n<=aJ:=bz h (by rw[bX];decide)
set_option h true
def WT:i1 G (λx y H Q=>∃i j,x=.str i/\y=.str j/\i.length+j.length<=aJ/\Q (.str (i++j)) H) DH:=λx y z h H v u Q e s d f k=>by
 unfold DH at e;split at e
 .rename_i a b;split at e
  .rename_i c;cases e;exact#v[a,b,d,f,IA c,k _ λt t=>Aj _]
  .cases e
 .cases e
set_option h false
def SY:D->D->Option D
 |.str a,.str b=>Z (.X (!decide (b.cps.toList<a.cps.toList)))
 |_,_=>O
set_option h true
def aaC:i1 G (λx y H Q=>∃i j,x=.str i/\y=.str j/\Q (.X (!decide (j.cps.toList<i.cps.toList))) H) SY:=λx y z f H v u Q e s c d k=>by
 unfold SY at e;split at e
 .rename_i a b;cases e;exact#v[a,b,c,d,k _ λt t=>yw _]
 .cases e
set_option h false
def D.isN:D->Bool
 |.U=>γ
 |_=>δ
def zF:D->D->Option D
 |x,.U=>Z (.X x.isN)
 |_,_=>O
def yn:D->D->Option D
 |x,.U=>Z (.X (!x.isN))
 |_,_=>O
def O8{d:D}{v:V}(h:cm G H d v):decide (v=.U)=d.isN:=by
 cases d<;>unfold cm at h
 .subst h;rfl
 .subst h;rfl
 .subst h;rfl
 .subst h;rfl
 .obtain⟨a,b,rfl,_⟩:=h;rfl
 .obtain⟨a,b,rfl,_⟩:=h;rfl
 .obtain⟨a,b,rfl,_⟩:=h;rfl
 .obtain⟨a,c,b,rfl,_⟩:=h;rfl
 .obtain⟨a,e,b,rfl,_⟩:=h;rfl
 .obtain⟨a,b,rfl,_⟩:=h;rfl
def aaD:i1 G (λx y H Q=>y=.U/\Q (.X (decide (x=.U))) H) zF:=λx y z c H v u Q e s b a k=>by
 unfold zF at e;split at e
 .cases e;unfold cm at a;refine#v[a,?_];rw[O8 b];exact k _ λt t=>yw _
 .cases e
def WU:i1 G (λx y H Q=>y=.U/\Q (.X (!decide (x=.U))) H) yn:=λx y z c H v u Q e s b a k=>by
 unfold yn at e;split at e
 .cases e;unfold cm at a;refine#v[a,?_];rw[O8 b];exact k _ λt t=>yw _
 .cases e
def afC:D->D->Option D
 |.X a,.X b=>Z (.X (a != b))
 |_,_=>O
mutual
def iE:D->Option L3.Dq
 |.U=>Z .U
 |.X b=>Z (.X b)
 |.int i=>Z (.int i)
 |.str x=>Z (.str x)
 |.a7 a=>match xX a with
  |some l=>Z (.a7 l)
  |none=>O
 |.a3 a=>match xX a with
  |some l=>Z (.a3 l)
  |none=>O
 |.nq _=>O
 |.obj _ _ _=>O
 |.i0 _ _=>O
 |.Z' _ _=>O
def xX:br->Option (List L3.Dq)
 |[]=>Z []
 |d::a=>match iE d with
  |some x=>match xX a with
   |some l=>Z (x::l)
   |none=>O
  |none=>O
end
mutual
theorem HM:∀(d:D) (v:V) (x:L3.Dq),cm G H d v->iE d=Z x->L3.cm G.K H x v
 |.U,v,x,h,e=>by unfold iE at e;cases e;unfold cm at h;unfold L3.cm;exact h
 |.X b,v,x,h,e=>by unfold iE at e;cases e;unfold cm at h;unfold L3.cm;exact h
 |.int b,v,x,h,e=>by unfold iE at e;cases e;unfold cm at h;unfold L3.cm;exact h
 |.str b,v,x,h,e=>by unfold iE at e;cases e;unfold cm at h;unfold L3.cm;exact h
 |.a7 f,v,x,h,e=>by
  unfold iE at e;cases c:xX f with
  |none=>simp only[c]at e;cases e
  |some l=>simp only[c]at e;cases e;obtain⟨a,i,rfl,j,m⟩:=h;exact#v[a,i,U,j,Fp f i l m c]
 |.a3 f,v,x,h,e=>by
  unfold iE at e;cases c:xX f with
  |none=>simp only[c]at e;cases e
  |some l=>simp only[c]at e;cases e;obtain⟨a,i,rfl,j,m⟩:=h;exact#v[a,i,U,e8.of j,Fp f i l m c]
 |.nq _,v,x,h,e=>by unfold iE at e;cases e
 |.obj _ _ _,v,x,h,e=>by unfold iE at e;cases e
 |.i0 _ _,v,x,h,e=>by unfold iE at e;cases e
 |.Z' _ _,v,x,h,e=>by unfold iE at e;cases e
theorem Fp:∀(a:br) (b:bF) (l:List L3.Dq),a6 G H a b->xX a=Z l->L3.a6 G.K H l b
 |[],b,l,h,e=>by unfold xX at e;cases e;unfold a6 at h;unfold L3.a6;exact h
 |d::a,b,l,h,e=>by
  unfold xX at e;cases c:iE d with
  |none=>simp only[c]at e;cases e
  |some x=>
   simp only[c]at e;cases f:xX a with
   |none=>simp only[f]at e;cases e
   |some m=>simp only[f]at e;cases e;obtain⟨v,r,rfl,i,j⟩:=h;exact#v[v,r,U,HM d v x i c,Fp a r m j f]
end
def Gu(neg:Bool):D->D->Option D:=λx y=>match yC x&&yC y&&RX (vD x) (vD y)with
 |true=>Z (.X (if neg then !decide (vD x=vD y)else decide (vD x=vD y)))
 |false=>O
def IB(neg:Bool):D->D->Option D:=λx y=>match iE x,iE y with
 |some a,Z b=>if O1 a b&&decide (fc a<=20)&&decide (fc b<=20)then Z (.X (if neg then !oz a b else oz a b))else O
 |_,_=>O
def cb(neg:Bool):D->D->Option D:=λx y=>match Gu neg x y with
 |some z=>Z z
 |none=>IB neg x y
set_option r "E Eq δ;F Ne γ" in def aaϑ0:i1 G rϑ1 (Gu ϑ2):=λx y z d H v u Q e s b c k=>by
 unfold Gu at e;cases a:yC x&&yC y&&RX (vD x) (vD y)with
 |false=>simp only[a]at e;cases e
 |true=>simp only[a]at e;cases e;simp only[aW]at a;rw[zV b a.1.1,zV c a.1.2];exact#v[a.2,k _ λt t=>yw _]
set_option h true
def SZ{neg:Bool}:i1 G (NU G.K neg) (IB neg):=λx y z j H v u Q e s h i k=>by
 unfold IB at e;cases c:iE x with
 |none=>simp only[c]at e;cases e
 |some a=>
  cases f:iE y with
  |none=>simp only[c,f]at e;cases e
  |some b=>
   simp only[c,f]at e;split at e
   .rename_i d;cases e;simp only[aW,bK]at d;exact#v[a,b,HM x v a (cm.mono s _ _ h) c,HM y u b (cm.mono s _ _ i) f,d.1.1,d.1.2,d.2,k _ λt t=>yw _]
   .cases e
set_option h false
set_option r "G Eq Eq δ w h;H NotEq Ne γ x i" in def aaϑ0(a:X.A.units+64<cLine)(hK:X.K=G.K:=by rfl):gi X (bD .ϑ1) (λx y H Q=>rϑ2 x y H Q\/NU G.K ϑ3 x y H Q):=by rw[<-hK];exact gi.or adϑ4 (aaϑ5 a)
set_option r "d Eq δ E;e Ne γ F" in def aeϑ0:i1 G (λx y H Q=>rϑ1 x y H Q\/NU G.K ϑ2 x y H Q) (cb ϑ2):=i1.or aaϑ3 SZ
def S0:D->Option br
 |.a7 a=>Z a
 |.a3 a=>Z a
 |.nq a=>Z a
 |_=>O
def O9{d:D}{i:br}{v:V}(h:cm G H d v)(e:S0 d=Z i):∃p b,v=.ref p/\(e8 G.K H p b\/e? G.K H p b)/\a6 G H i b:=by
 cases d with
 |a7 l=>cases e;unfold cm at h;obtain⟨a,b,rfl,c,f⟩:=h;exact#v[a,b,U,.inr c,f]
 |a3 l=>cases e;unfold cm at h;obtain⟨a,b,rfl,c,f⟩:=h;exact#v[a,b,U,.inl (e8.of c),f]
 |nq l=>cases e;unfold cm at h;obtain⟨a,b,rfl,c,f⟩:=h;exact#v[a,b,U,.inl c,f]
 |_=>cases e
def j0(neg:Bool):D->D->Option D:=λx y=>match S0 y with
 |some a=>if yC x&&a.all yC then Z (.X (if neg then !inV (vD x) (a.map vD)else inV (vD x) (a.map vD)))else O
 |none=>O
def Pb{K:aw}{H b:Hp}{p:Addr}{a:bF}(s:vX H b)(h:e8 K H p a\/e? K H p a):e8 K b p a\/e? K b p a:=h.imp s.seq (e?.mono s)
set_option h true
def YC{neg:Bool}:i1 G (rIn G.K neg) (j0 neg):=λx y z j H v u Q e s d h k=>by
 unfold j0 at e;cases b:S0 y with
 |none=>simp only[b]at e;cases e
 |some l=>
  simp only[b]at e;split at e
  .rename_i a;cases e;simp only[aW]at a;obtain⟨p,i,rfl,f,c⟩:=O9 h b;refine#v[p,i,U,Pb s f,?_,?_,?_]
   .rw[zV d a.1];exact Mw a.1
   .rw[Gs c a.2];exact J1 a.2
   .rw[zV d a.1,Gs c a.2];exact k _ λt t=>yw _
  .cases e
set_option h false
set_option r "aaI In δ QA;QQ NotIn γ KF" in def ϑ0(hK:X.K=G.K:=by rfl):gi X (bD .ϑ1) (rIn G.K ϑ2):=by rw[<-hK];exact ϑ3
def b3(x y:D):Option D:=match y with
 |.int i=>match x with
  |.a7 a=>z? a i
  |.a3 a=>z? a i
  |.nq a=>z? a i
  |.str x=>if x.length<=100000 then (z? x.cps.toList i).map λc=>.str #v[#[c]]else O
  |_=>O
 |_=>O
set_option h true
def aef:i1 G (rIx G.K) b3:=λx y z B H v u Q e s p A k=>by
 cases y with
 |int i=>
  subst A;cases x with
  |a7 d=>obtain⟨a,o,rfl,f,h⟩:=p;obtain⟨w,l,m⟩:=Iu h (show z? d i=Z z from e);exact .inr (.inl #v[a,o,i,w,U,U,e?.mono s f,l,k _ λb j=>cm.mono j _ _ m])
  |a3 d=>obtain⟨a,o,rfl,f,h⟩:=p;obtain⟨w,l,m⟩:=Iu h (show z? d i=Z z from e);exact .inl #v[a,o,i,w,U,U,s.seq (e8.of f),l,k _ λb j=>cm.mono j _ _ m]
  |nq d=>obtain⟨a,o,rfl,f,h⟩:=p;obtain⟨w,l,m⟩:=Iu h (show z? d i=Z z from e);exact .inl #v[a,o,i,w,U,U,s.seq f,l,k _ λb j=>cm.mono j _ _ m]
  |str t=>
   subst p;unfold b3 at e;simp only at e;split at e
   .rename_i r;cases q:z? t.cps.toList i with
    |none=>rw[q]at e;cases e
    |some c=>rw[q]at e;cases e;exact .inr (.inr #v[t,i,c,U,U,IA r,q,k _ λ_ _=>Aj _])
   .cases e
  |_=>cases e
 |_=>cases e
set_option h false
def ix_X(hK:autoParam (X.K=G.K) zA0._auto_1):X1 X (rIx G.K):=by rw[<-hK];exact Z7
def J2(G:Bg)(r:bF->Hp->VK->Prop)(g:D->Option D):Prop:=∀x z b H v (Q:VK),g x=Z z->vX b H->cm G b x v->(∀w,(∀a,vX b a->cm G a z w)->Q w H)->r [v] H Q
def YD{e:Expr}{r:bF->Hp->VK->Prop}{g:D->Option D}{f:FE}(p:J2 G r g)(h:PE X e (ε r (qi G (ax f vP)))):PE X e (tF G (c1 g f)):=PE.b? h λB H Q o=>by obtain⟨F,y,i,d,b,R,e,k⟩:=o;obtain⟨x,l,m⟩:=Fj e;refine#v[F,y,i,[x],b,R,by unfold ax;rw[l];rfl,λA j a s c rs=>?_];obtain⟨v,z,rfl,u,t⟩:=rs;subst t;exact p x d j a v Q m c.sub u λw q=>k _ _ _ s c (q _ (vX.refl _))
def xH.or{f:ab}{r b:bF->Hp->VK->Prop}(h:xH X f r)(j:xH X f b):xH X f (λx H Q=>r x H Q\/b x H Q):=λa s i H e d Q I c q=>q.elim (h a s i H e d Q I c) (j a s i H e d Q I c)
def w5:D->Option D
 |.a7 a=>Z (.int a.length)
 |.a3 a=>Z (.int a.length)
 |.nq a=>Z (.int a.length)
 |.str x=>if x.length<=100000 then Z (.int x.length)else O
 |.i0 b a=>Z (.int b.length)
 |_=>O
def QR:xH X (.builtin "len") (λc H Q=>∃a kvs,c=[V.ref a]/\Rd H a (.dK kvs)/\Q (.int kvs.length) H):=by intro b s l H c j Q I r h;obtain⟨a,kvs,rfl,e,q⟩:=h;obtain⟨u,rfl,f⟩:=j? r;cases f;exact adN I e λt i d=>#v[.int kvs.length,H,d,#v[t,U],q]
def YE(K:aw):bF->Hp->VK->Prop:=λb H Q=>(∃p c,b=[.ref p]/\(e8 K H p c\/e? K H p c)/\Q (.int c.length) H)\/((∃z,b=[.str z]/\z.length<=aJ/\Q (.int z.length) H)\/(∃a kvs,b=[V.ref a]/\Rd H a (.dK kvs)/\Q (.int kvs.length) H))
def QS(hK:autoParam (X.K=G.K) zA0._auto_1):xH X (.builtin "len") (YE G.K):=by rw[<-hK];exact xH.or KG (xH.or KH QR)
set_option h true
def yT:J2 G (YE G.K) w5:=λx z j H v Q e s f k=>by
 cases x with
 |a7 h=>cases e;obtain⟨a,d,rfl,b,c⟩:=f;refine .inl #v[a,d,U,.inr (e?.mono s b),?_];rw[<-vH c];exact k _ λ_ _=>yf _
 |a3 h=>cases e;obtain⟨a,d,rfl,b,c⟩:=f;refine .inl #v[a,d,U,.inl (s.seq (e8.of b)),?_];rw[<-vH c];exact k _ λ_ _=>yf _
 |nq h=>cases e;obtain⟨a,d,rfl,b,c⟩:=f;refine .inl #v[a,d,U,.inl (s.seq b),?_];rw[<-vH c];exact k _ λ_ _=>yf _
 |str t=>
  unfold w5 at e;simp only at e;split at e
  .rename_i i;cases e;exact .inr (.inl #v[t,by rw[f],IA i,k _ λ_ _=>yf _])
  .cases e
 |i0 m h=>cases e;obtain⟨a,o,d,rfl,b,c,l⟩:=f;refine .inr (.inr #v[a,_,U,.inr #v[o,s _ _ b],?_]);rw[il,<- c,gQ];exact k _ λ_ _=>yf _
 |_=>cases e
set_option h false
def WV:D->Option D
 |.int i=>Z (.int i)
 |.X b=>Z (.int (if b then 1 else 0))
 |_=>O
def aaJ:J2 G (λc H Q=>(∃i,c=[.int i]/\Q (.int i) H)\/∃k,c=[.X k]/\Q (.int (if k then 1 else 0)) H) WV:=λx z d H v Q e s a k=>by
 cases x with
 |int i=>cases e;unfold cm at a;subst a;exact .inl #v[i,U,k _ λt t=>yf _]
 |X b=>cases e;unfold cm at a;subst a;exact .inr #v[b,U,k _ λt t=>yf _]
 |_=>cases e
def JE:br->Option (List Bool)
 |[]=>Z []
 |.X b::r=>(JE r).map (b::·)
 |_=>O
theorem IC:∀{d:br} {a:bF} {bs:List Bool},a6 G H d a->JE d=Z bs->a=bs.map V.X
 |[],a,bs,h,e=>by cases e;unfold a6 at h;exact h
 |.X b::r,a,bs,h,e=>by
  obtain⟨v,q,rfl,f,i⟩:=h;unfold JE at e;cases c:JE r with
  |none=>rw[c]at e;cases e
  |some l=>rw[c]at e;cases e;unfold cm at f;subst f;rw[IC i c];rfl
 |.U::r,a,bs,h,e=>by cases e
 |.int _::r,a,bs,h,e=>by cases e
 |.str _::r,a,bs,h,e=>by cases e
 |.a7 _::r,a,bs,h,e=>by cases e
 |.a3 _::r,a,bs,h,e=>by cases e
 |.nq _::r,a,bs,h,e=>by cases e
 |.obj _ _ _::r,a,bs,h,e=>by cases e
 |.i0 _ _::r,a,bs,h,e=>by cases e
 |.Z' _ _::r,a,bs,h,e=>by cases e
def zX:D->Option D
 |.a3 a=>(JE a).map λbs=>.X (bs.all id)
 |_=>O
def aaK:J2 G (λd H Q=>∃(p:Addr) (bs:List Bool),d=[.ref p]/\e8 G.K H p (bs.map V.X)/\Q (.X (bs.all id)) H) zX:=λx z j H v Q e s i k=>by
 cases x with
 |a3 f=>
  unfold zX at e;simp only at e;cases b:JE f with
  |none=>rw[b]at e;cases e
  |some bs=>rw[b]at e;cases e;obtain⟨a,d,rfl,c,h⟩:=i;rw[IC h b]at c;exact#v[a,bs,U,s.seq (e8.of c),k _ λt t=>yw _]
 |_=>cases e
def QT(a:X.mi=γ)(hK:autoParam (X.K=G.K) zA0._auto_1):xH X (.builtin "all") (λb H Q=>∃(p:Addr) (bs:List Bool),b=[.ref p]/\e8 G.K H p (bs.map V.X)/\Q (.X (bs.all id)) H):=by rw[<-hK];exact Sx a
inductive Ty where
 |b (n:String)|c (k:Nat)
set_option r "val ab ype;v V y" in def Ty.ϑ0(G:Bg):Ty->ϑ1
 |.b n=>.tϑ2 n
 |.c k=>.ref (G.ca k)
def tyD:D->Ty
 |.U=>.b "NoneType" |.X _=>.b "bool" |.int _=>.b "int" |.str _=>.b "str" |.a7 _=>.b "tuple" |.a3 _=>.b "list" |.nq _=>.b "list" |.i0 _ _=>.b "dict" |.Z' _ _=>.b "dict" |.obj c _ _=>.c c
structure JF(K:aw)(C:Addr):Prop where
 cl:Fs K C
 ha:cZ K (.ref C) "__class__" = Z (Z (.builtin "object.__class__"))
 hn:rZ K (.builtin "object.__class__") "__get__" = Z (Z (.builtin "getset_descriptor.__get__"))
 htk:W.takesIn K (.builtin "object.__class__")=Z γ
 hm:W.mroIn K C (.type "object")=Z γ
def S4{pins:cO}{σ:St}{s:af}{A:aR}{E:ab->af->Prop}{Q:ab->af->Prop}{c:ab}{b:Bool}{d:D}{v:V}{u:ab}(I:b0 X pins σ H s)(hK:X.K=G.K)(hd:cm G H d v)(f:dd v u)(j:∀k ns ds,d=.obj k ns ds->JF X.K (G.ca k))
  (e:cM X.K ((tyD d).val G) c=Z b) (h:∀tk,Q (.bool b) { s with toks:=tk }):ao (model X.prog X.w) A (call (.builtin "isinstance") [u,c]) Q E s:=by
 cases d with
 |U=>unfold cm at hd;subst hd;exact Ax I f .U e h
 |X x=>unfold cm at hd;subst hd;exact Ax I f (.X x) e h
 |int x=>unfold cm at hd;subst hd;exact Ax I f (.int x) e h
 |str x=>unfold cm at hd;subst hd;exact Ax I f (.str x) e h
 |a7 ds=>obtain⟨a,xs,rfl,h1,h2⟩:=hd;cases f;rw[<-hK]at h1;obtain⟨i,_,p,_⟩:=I.tuple h1;obtain⟨o,q1,q2,_⟩:=p;exact cQ ng I.ma #v[o,q1,q2] e (λz=>nomatch z) h
 |a3 ds=>obtain⟨a,xs,rfl,h1,h2⟩:=hd;exact Ax I f (.a3 h1) e h
 |nq ds=>obtain⟨a,xs,rfl,h1,h2⟩:=hd;cases f;rw[<-hK]at h1;obtain⟨i,_,p,_⟩:=I.list h1;obtain⟨o,n,q1,q2,_⟩:=p;exact cQ jo I.ma #v[o,q1,q2] e (λz=>nomatch z) h
 |i0 ks ds=>obtain⟨a,o,xs,rfl,h1,h2,h3⟩:=hd;cases f;obtain⟨q0,_,_,vs,_,ob,es,ep,q1,q2,_⟩:=(show en X.prog X.w H s.heap a (.mr o (.dK (ks.zip xs))) from I.ew a _ h1);exact cQ iG I.ma #v[ob,q1,q2.1] e (λz=>nomatch z) h
 |Z' ks ds=>obtain⟨a,xs,rfl,⟨o,qs,h1,_,h3,_⟩,_⟩:=hd;cases f;exact cQ iG I.ma #v[o,(show en X.prog X.w H s.heap a (.ext (isO a o)) from I.ew a _ h1).1,h3.ex.1] e (λz=>nomatch z) h
 |obj k ns ds=>have ci:=j k ns ds U;obtain⟨a,dx,xs,rfl,h1,h2,h3⟩:=hd;exact Ax I f (.ke h1 ci.cl ci.ha ci.hn ci.htk ci.hm) e h
def wX(t:Ty->Option Bool):D->Option D:=λd=>(t (tyD d)).map .X
def J3(c:Ty){t:Ty->Option Bool}(m:∀y b,t y=Z b->cM X.K (y.val G) (c.val G)=Z b)(l:∀k b,t (.c k)=Z b->JF X.K (G.ca k))(hK:autoParam (X.K=G.K) zA0._auto_1):
  xH X (.builtin "isinstance") (λi H Q=>∃d x b,i=[x,c.v G]/\cm G H d x/\t (tyD d)=Z b/\Q (.X b) H):=by
 intro f s E H i C Q I r h;obtain⟨d,x,b,rfl,hd,e,q⟩:=h;obtain⟨u,p,rfl,o,a⟩:=vals2 r;have j:p=c.val G:=by cases c<;>exact a
 subst j;exact S4 I hK hd o (λk A w z=>by subst z;exact l k b e) (m _ _ e) λB=>#v[.X b,H,I.ri _,U,q]
def Pc{e:Expr}{c:Ty}{t:Ty->Option Bool}{f:FE}(h:PE X e (ε (λu H Q=>∃d x b,u=[x,c.v G]/\cm G H d x/\t (tyD d)=Z b/\Q (.X b) H) (E9 (tF G f) (E9 (tC (c.v G)) Jy)))):PE X e (tF G (c1 (wX t) f)):=PE.b? h λz H Q q=>by
 obtain⟨F,w,m,d,j,R,e,k⟩:=q;obtain⟨x,p,a⟩:=Fj e;unfold wX at a;cases i:t (tyD x)with
 |none=>rw[i]at a;cases a
 |some b=>rw[i]at a;cases a;exact#v[F,w,m,x,j,R,p,λv y o s l r=>#v[x,v,b,U,cm.mono l.sub _ _ r,i,k _ _ _ s l (yw b)]]
def xt(f g:FE):FA:=λe=>match f e with
 |some (.a3 c,a)=>match g a with
  |some (.a3 d,b)=>if c.length+d.length<=1000 then Z (c++d,b)else O
  |_=>O
 |_=>O
set_option h true
def WW{a b:Expr}{f g:FE}{pos:Pos}(I:PE X a (tF G f))(J:PE X b (tF G g)):PE X (.BinOp a .Add b pos) (tH G (xt f g)):=PE.b? (RW Z9 I J) λσ H Q M=>by
 obtain⟨F,T,q,d,W,R,e,k⟩:=M;unfold xt at e;split at e
 .rename_i xs c A;split at e
  .rename_i ys Y B;split at e
   .rename_i N;cases e;refine#v[F,T,q,_,c,R,A,λv t w s y r=>#v[F,c,t,_,_,y,B,λu H2 x o R2 S=>?_]];have P:=cm.mono o _ _ r;obtain⟨a1,i,rfl,C,l⟩:=P;obtain⟨z,j,rfl,E,m⟩:=S;refine#v[a1,z,i,j,U,U,R2.sub _ _ C,R2.sub _ _ E,by rw[<-vH l,<- vH m];exact y9 N,λp h=>?_];exact k p _ _ _ (s.t o) (R2.ff h _) vI (R2.er h) (R2.fg h) (R2.apart h) (xN l m)
   .cases e
  .cases e
 .cases e
set_option h false
def zf(f:FE):FA:=λc=>match f c with
 |some (d,a)=>match S0 d with
  |some b=>Z (b,a)
  |none=>O
 |none=>O
def S5{e:Expr}{f:FE}(h:PE X e (ε (λm H Q=>∃p c,m=[.ref p]/\(e8 G.K H p c\/e? G.K H p c)/\∀l,H l=O->Q (.ref l) (ef H l (.a3 c))) (qi G (ax f vP)))):PE X e (tH G (zf f)):=PE.b? h λJ H Q x=>by
 obtain⟨F,o,q,E,A,R,e,k⟩:=x;unfold zf at e;rcases wm (f:=f) (ρ:=o)with i|⟨d,B,i⟩<;>simp only[i]at e
 .cases e
 .cases j:S0 d with
  |none=>simp only[j]at e;cases e
  |some t=>simp only[j]at e;cases e;refine#v[F,o,q,[d],_,R,by unfold ax;rw[i];rfl,λc C r s a rs=>?_];obtain⟨v,I,rfl,z,y⟩:=rs;subst y;obtain⟨p,m,rfl,u,w⟩:=O9 z j;exact#v[p,m,U,Pb a.sub u,λl b=>k l _ _ _ s (a.ff b _) vI (a.er b) (a.fg b) (a.apart b) w]
def N1(hK:autoParam (X.K=G.K) zA0._auto_1):xH X (.type "list") (λb H Q=>∃p a,b=[.ref p]/\(e8 G.K H p a\/e? G.K H p a)/\∀l,H l=O->Q (.ref l) (ef H l (.a3 a))):=by rw[<-hK];exact KI
def zp(f:FE):FE:=λc=>match f c with
 |some (.a3 b,a)=>Z (.a7 b,a)
 |some (.a7 b,a)=>Z (.a7 b,a)
 |_=>O
set_option h true
def S6{e:Expr}{f:FE}(h:PE X e (ε (λr H Q=>∃p b,r=[.ref p]/\((e8 G.K H p b/\∀l,H l=O->Q (.ref l) (ef H l (.a7 b)))\/(e? G.K H p b/\Q (.ref p) H))) (qi G (ax f vP)))):PE X e (tF G (zp f)):=PE.b? h λI H Q A=>by
 obtain⟨F,y,w,E,C,R,e,k⟩:=A;unfold zp at e;split at e
 .rename_i r u i;cases e;refine#v[F,y,w,[_],_,R,by unfold ax;rw[i];rfl,λb z d s a rs=>?_];obtain⟨v,B,rfl,c,o⟩:=rs;subst o;obtain⟨p,t,rfl,j,x⟩:=c;refine#v[p,t,U,.inl #v[e8.of (a.sub _ _ j),λl m=>?_]];exact k _ _ _ (s.t (vV (a.er m) _)) (a.wh m _) (D7 (e?.of vI) (a6.mono (vV (a.er m) _) _ _ x))
 .rename_i r u i;cases e;refine#v[F,y,w,[_],_,R,by unfold ax;rw[i];rfl,λb z d s a rs=>?_];obtain⟨v,B,rfl,c,o⟩:=rs;subst o;have q:=c;obtain⟨p,t,rfl,j,x⟩:=c;exact#v[p,t,U,.inr #v[e?.mono a.sub j,k _ _ _ s a q]]
 .cases e
set_option h false
def QU(hK:autoParam (X.K=G.K) zA0._auto_1):xH X (.type "tuple") (λb H Q=>∃p a,b=[.ref p]/\((e8 G.K H p a/\∀l,H l=O->Q (.ref l) (ef H l (.a7 a)))\/(e? G.K H p a/\Q (.ref p) H))):=by rw[<-hK];exact JA
def fb(xs:br)(lo a:Option Int):br:=(xs.drop (HT.e7 xs.length 0 lo)).take (HT.e7 xs.length xs.length a - HT.e7 xs.length 0 lo)
def Fq{a:Hp}{b:br}{d:bF}{lo c:Option Int}(r:a6 G a b d):a6 G a (fb b lo c) (KC d lo c):=by unfold fb KC;rw[<-vH r];exact Gp _ (Gm _ r)
def Xn(f:FE)(lo c:Option Int):FA:=λd=>match f d with
 |some (.a3 b,a)=>Z (fb b lo c,a)
 |some (.nq b,a)=>Z (fb b lo c,a)
 |_=>O
def tO(o:Option Int):TO:=λt H Q=>Q o H
set_option h true
def QV{e:Expr}{f:FE}{lo o:Option Int}(h:PE X e (tSl (Qz G.K) (tF G f) (tO lo) (tO o))):PE X e (tH G (Xn f lo o)):=PE.b? h λC H Q A=>by
 obtain⟨F,y,t,z,w,R,e,k⟩:=A;have n9:∀{a:Addr} {j:bF} {i:br} {d b:Hp},vX t d->bt G F C w d b->e8 G.K d a j->a6 G d i j->z=fb i lo o->Qz G.K (.ref a) lo o b Q:=λ{a j i d b} s c l m e=>by subst e;exact#v[a,j,U,c.sub.seq l,λp q=>k p _ _ _ s (c.ff q _) vI (c.er q) (c.fg q) (c.apart q) (Fq m)]
 unfold Xn at e;split at e
 .rename_i j x u;cases e;refine#v[F,y,t,_,_,R,u,λv d b s c r=>?_];obtain⟨a,B,rfl,l,m⟩:=r;exact n9 s c (e8.of l) m U
 .rename_i j x u;cases e;refine#v[F,y,t,_,_,R,u,λv d b s c r=>?_];obtain⟨a,B,rfl,l,m⟩:=r;exact n9 s c l m U
 .cases e
set_option h false
def S7{n:Int}{j pos}:PO X (Z (.Constant (.int n) j pos)) (tO (Z n)):=λa s b H Q I h=>OY RM a s b H Q I #v[n,U,h]
def aeg:PO X O (tO O):=OX
def sl_X(hK:autoParam (X.K=G.K) zA0._auto_1):SlR X (Qz G.K):=by rw[<-hK];exact V7
end
def Sl.bor:Sl->Sl
 |.un=>.un
 |.I d=>.I d
 |.Y a=>.I (.a3 a)
 |.pm a=>.I (.a3 a)
 |.dk _ _=>.un
 |.ob c b a=>.I (.obj c b a)
section
variable{X:Cx}{G:Bg}
theorem bt.bor(R:bt G F σ ρ H0 H):bt G #v[H,H,[]] σ (ρ.map Sl.bor) H H where
 sub:=vX.refl _
 g0:=vX.refl _
 keep:=λb o e _=>e
 fr:=λb o e=>.inl e
 am:=λa h=>by cases h
 len:=by rw[ae];exact R.len
 sl:=λi s e=>by
  rw[bg]at e;cases f:ρ[i]? with
  |none=>rw[f]at e;cases e
  |some t=>
   rw[f]at e;cases e;have ok:=R.sl i t f;cases t with
   |un=>trivial
   |I d=>obtain⟨v,h1,h2⟩:=ok;exact#v[v,h1,cm.mono R.sub _ _ h2]
   |Y ds=>obtain⟨a,xs,h1,h2,h3,h4,h5⟩:=ok;exact#v[_,h1,D8 h2 (a6.mono R.sub _ _ h5)]
   |pm ds=>obtain⟨a,xs,h1,h2,h3,h4,h5⟩:=ok;exact#v[_,h1,D8 h2 (a6.mono R.sub _ _ h5)]
   |dk ks ds=>trivial
   |ob c ns ds=>obtain⟨a,dx,xs,h1,h2,h3,h4,h5,h6⟩:=ok;exact#v[_,h1,by unfold cm;exact#v[a,dx,xs,U,h2,h5,a6.mono R.sub _ _ h6]]
 ap:=λi j s t a _ e _ so=>by
  rw[bg]at e;cases f:ρ[i]? with
  |none=>rw[f]at e;cases e
  |some t=>rw[f]at e;cases e;cases t<;>cases so
def bt.unbor(R:bt G F h ρ d H)(c:bt G #v[H,H,[]] i f j a):bt G F h ρ d a:=
 R.fx (λb o e=>c.keep b o e (by simp)) (vX.refl _) (λb o e=>c.keep b o (R.sub _ _ e) (by simp)) λb o e=>.inl e
def KU(f:FE):FE:=λa=>match f (a.map Sl.bor)with
 |some (d,_)=>if yC d=γ then Z (d,a)else O
 |none=>O
def G4(f:FT):FT:=λa=>match f (a.map Sl.bor)with
 |some (d,_)=>Z (d,a)
 |none=>O
set_option h true
def aaL(h:PE X e (tF G f)):PE X e (tF G (KU f)):=PE.b? h λt H Q m=>by
 obtain⟨F,i,p,d,o,R,e,k⟩:=m;unfold KU at e;rcases wm (f:=f) (ρ:=i.map Sl.bor)with a|⟨x,b,a⟩<;>simp only[a]at e
 .cases e
 .split at e
  .rename_i c;cases e;refine#v[_,_,H,d,b,R.bor,a,λv q j s l r=>?_];rw[zV r c];exact k _ _ _ (vX.refl _) (R.unbor l) (Fo c _)
  .cases e
set_option h false
def WX(h:PT X e (l0 G f)):PT X e (l0 G (G4 f)):=PT.b? h λq H Q l=>by
 obtain⟨F,c,o,d,m,R,e,k⟩:=l;unfold G4 at e;rcases wm (f:=f) (ρ:=c.map Sl.bor)with a|⟨x,b,a⟩<;>simp only[a]at e
 .cases e
 .cases e;exact#v[_,_,H,d,b,R.bor,a,λp i s j=>k _ _ (vX.refl _) (R.unbor j)]
def yU(g h:D->D->Option D)(d e f:FE):FE:=λi=>match d i with
 |some (x,b)=>match e b with
  |some (y,a)=>match g x y with
   |some (.X γ)=>match f a with
    |some (z,c)=>match h y z with
     |some w=>Z (w,c)
     |none=>O
    |none=>O
   |some (.X δ)=>Z (.X δ,a)
   |_=>O
  |none=>O
 |none=>O
set_option h true
def My(ho:i1 G r g)(I:i1 G r' Y):∀M H Q,tF G (yU g Y S T W) M H Q->NG r r' (tF G S) (tF G T) (tF G W) M H Q:=λM H Q hh=>by
 obtain⟨F,m,H0,d,ρ',R,e,k⟩:=hh;unfold yU at e;rcases wm (f:=S) (ρ:=m)with p|⟨x,b,p⟩<;>simp only[p]at e
 .cases e
 rcases wm (f:=T) (ρ:=b)with A|⟨y,c,A⟩<;>simp only[A]at e
 .cases e
 refine#v[F,m,H0,x,b,R,p,λv H1 H1' s1 R1 r1=>#v[F,b,H1,y,c,R1,A,λu h i o R2 J=>?_]];split at e
 .rename_i B;refine ho x y _ h i v u _ B R2.sub (cm.mono o _ _ r1) J λw l=>?_;have a:=l h (vX.refl _);refine#v[γ,a,KO ?_];rcases wm (f:=W) (ρ:=c)with C|⟨z,ρ3,C⟩<;>simp only[C]at e
  .cases e
  cases E:Y y z with
  |none=>simp only[E]at e;cases e
  |some q=>simp only[E]at e;cases e;refine#v[F,c,h,z,_,R2,C,λt N j s3 P r3=>?_];exact I y z _ N j u t Q E P.sub (cm.mono s3 _ _ J) r3 λw l=>k w N j (s1.t (o.t s3)) P (l _ (vX.refl _))
 .rename_i B;cases e;refine ho x y _ h i v u _ B R2.sub (cm.mono o _ _ r1) J λw l=>?_;have a:=l h (vX.refl _);exact#v[δ,a,KN (k _ _ _ (s1.t o) R2 (yw δ))]
 .cases e
set_option h false
def S8(w:gi X (bD h) r)(f:gi X (bD d) x)(u:i1 G r g)(e:i1 G x m)(o:PE X a (tF G i))(p:PE X b (tF G j))(q:PE X c (tF G l))
  (t:autoParam (lastMarks [h,d] [b,c]=δ) zA4._auto_1):PE X (.Compare a [h,d] [b,c] pos) (tF G (yU g m i j l)):=PE.b? (R0 w f o p q t) (My u e)
def QW(C:gi X (bD l) r)(i:gi X (bD f) E)(B:i1 G r g)(h:i1 G E u)(w:PE X a (tF G p))(x:PE X b (tF G q))(y:PE X c (tF G t))
  (A:autoParam (lastMarks [l,f] [b,c]=δ) zA4._auto_1):PT X (.Compare a [l,f] [b,c] pos) (l0 G (cT (yU g u p q t))):=PT.b? (R7 C i w x y A) λm H Q z=>by
 obtain⟨F,I,o,d,j,R,e,k⟩:=O4 m H Q z;exact My B h m H _ #v[F,I,o,d,j,R,e,k]
end
def G5(P:aL)(w:aE)(K:aw)(b:Str->Option ab)(a5:Heap)(k:Nat)(x:Str)(c:aB)(d:Sp):Prop:=
 ∃(f:Addr) (a:cn),b x=Z (.ref f)/\eG K (.ref f)=γ/\i? K a c []/\zI P w K b a5 x? k f a c d
def KW(G:Bg)(P:aL)(w:aE)(d:Str->Option ab)(a5:Heap)(k:Nat)(x:Str)(c:Nat)(e:aB)(dvs:bF)(g:br->Option (aB×br)):Prop:=
 ∃(f:Addr) (b:cn) (a:List ab),Mk G.K (G.ca c) f/\d x=Z (.ref (G.ca c))/\i? G.K b e a/\c6 dvs a/\zI P w G.K d a5 x? k f b e (spI G c g)
def Ct(G:Bg)(P:aL)(w:aE)(d:Str->Option ab)(a5:Heap)(k:Nat)(m:Str)(c:Nat)(h:br->Option D):Prop:=
 ∃(f:Addr) (a:cn) (b:aB),Fs G.K (G.ca c)/\Meth G.K (G.ca c) m f/\i? G.K a b []/\zI P w G.K d a5 x? k f a b (eb G h)
section
variable{X:Cx}{G:Bg}{k:Nat}{x m:Str}{p pos apos:Pos}{e o:Expr}{es:List Expr}{a:FA}{ps:aB}
def G6{c:Type}(g:br->c):(λb=>g (b++[]))=g:=funext λb=>by rw[cf]
set_option r "aaM eb F vx WL;WY o? H wx SN" in def ϑ0(D:G5 X.prog X.w X.K X.mg X.a5 k x ps (ϑ1 G g))(t:ye k X.A)(j:PA X (e::es) (qi G a))(r:Gl X x:=by rfl)(b:(x==("__debug__" : Str))=δ:=by decide)(l:aF (e::es) X.a4=(δ,eval e X.a4)::aF es X.a4:=by rfl)(hpl:(bO pos (aF es X.a4)).any (·.1)=δ:=by rfl):
  PE X (.Call (.Name x p) (e::es) [] pos) (tϑ2 G (ϑ3 g a)):=by
 obtain⟨f,u,c,d,h,i⟩:=D;have q:=ϑ4 (λs=>wC) (OV (p:=p) i t r c d h .nil L9 j b l hpl);rw[G6]at q;exact q
def S9(D:G5 X.prog X.w X.K X.mg X.a5 k x ps (o? G g))(l:ye k X.A)(j:autoParam (Gl X x) zA0._auto_1)(b:autoParam ((x==("__debug__" : Str))=δ) zA1._auto_1):PE X (.Call (.Name x p) [] [] pos) (tH G (wx g vP)):=by obtain⟨f,q,c,d,h,i⟩:=D;exact QK (Sg i l j c d h .nil L9 b)
def WZ(M:KW G X.prog X.w X.mg X.a5 k x c ps dvs g)(hd:∀H,a6 G H dds dvs)(y:ye (k+1) X.A)(r:PA X (e::es) (qi G a))(hK:autoParam (X.K=G.K) zA0._auto_1)(u:autoParam (Gl X x) zA0._auto_1)(b:autoParam ((x==("__debug__" : Str))=δ) zA1._auto_1)
  (t:autoParam (aF (e::es) X.a4=(δ,eval e X.a4)::aF es X.a4) zA0._auto_1) (hpl:autoParam ((bO pos (aF es X.a4)).any (·.1)=δ) zA0._auto_1):
  PE X (.Call (.Name x p) (e::es) [] pos) (tF G (wu c (λd=>g (d++dds)) a)):=by
 obtain⟨f,z,d,h,l,i,q,j⟩:=M;rw[<-hK]at h i j;exact WN hd (V1 h j y u l i q L9 r b t hpl)
def YF(M:∀c h,g c=Z h->Ct G X.prog X.w X.mg X.a5 k m c h)(q:ye k X.A)(hK:X.K=G.K):∀C b,MT G g C b->MOk X C m b [] E0:=λC b h=>by obtain⟨c,h,e,rfl,rfl⟩:=h;obtain⟨f,l,ps,d,i,q3,j⟩:=M c h e;rw[<-hK]at d i q3 j;exact#v[k,f,l,ps,[],d,i,j,q,q3,.nil,L9]
def QX(M:∀c h,g c=Z h->Ct G X.prog X.w X.mg X.a5 k m c h)(j:ye k X.A)(i:PE X o (tF G f))(d:PA X (e::es) (qi G a))(hK:autoParam (X.K=G.K) zA0._auto_1)
  (hst:autoParam (aF (e::es) X.a4=(δ,eval e X.a4)::aF es X.a4) zA0._auto_1) (hpl:autoParam ((bO pos (aF es X.a4)).any (·.1)=δ) zA0._auto_1)
  (l:autoParam (eval (.Call (.Attribute o m apos) (e::es) [] pos) X.a4=(do
   let b<-eval o X.a4
   standAt apos.atName
   let (f,first)<-holding [b] (getMethod b m pl)
   callWith pos f first (bO pos (aF (e::es) X.a4)) (backToKw pos (dP [] X.a4)))) zA0._auto_1):
  PE X (.Call (.Attribute o m apos) (e::es) [] pos) (tF G (vU g m f a)):=WM (SQ (MT G g) (YF M j hK) i d hst hpl l)
def N2(M:∀c h,g c=Z h->Ct G X.prog X.w X.mg X.a5 k m c h)(i:ye k X.A)(d:PE X o (tF G f))(hK:autoParam (X.K=G.K) zA0._auto_1)
  (j:autoParam (eval (.Call (.Attribute o m apos) [] [] pos) X.a4=(do
   let b<-eval o X.a4
   standAt apos.atName
   let (f,first)<-holding [b] (getMethod b m pl)
   callWith pos f first (bO pos (aF [] X.a4)) (backToKw pos (dP [] X.a4)))) zA0._auto_1):
  PE X (.Call (.Attribute o m apos) [] [] pos) (tF G (vU g m f vP)):=SR (QM (MT G g) (YF M i hK) d j)
end
section
variable{P:aL}{w:aE}{K:aw}{mg:Str->Option ab}{a5:Heap}{x qual:Str}{st:Stmt}{f T:Addr}{fd:cn}{N ps:aB}{k:Nat}{G:Bg}
abbrev ID(P:aL)(w:aE)(K:aw)(mg:Str->Option ab)(a5:Heap)(N:aB)(qual:Str)(st:Stmt)(f:Addr)(cdv:ab)(A:aR)(b4:List Env)(s:af)(H:Hp)(E:XK):Cx:=(LW x? P w K mg a5 N qual (v8 st) f cdv A b4 s H E).nox
set_option r "Ta dr np eb 4 H e E;aei qt e o? 5 I i G" in theorem ϑ0(a:g=ϑ1 ϑ2 n b)(c:ps.length=ϑ2)(hN:N.length=n)(F:Xi K x qual st f fd)(S:yJ N ps (v8 st))(body:∀(cdv:ab) (A:aR) (b4:List Env) (s:af) (H:Hp) (E:XK),ye k (A.deeper (envOfC qual (v8 st) s.heap.objs.size f cdv))->m? (ID P w K mg a5 N qual st f cdv A b4 s H E) (wM st) (ki G b)):
  zI P w K mg a5 x? (k+1) f fd ps (ϑ3 G g):=by
 subst a c hN;exact F.ok S (adϑ4 Wϑ5) λcdv A b4 s H ϑ6 Q E d h=>#v[_,body cdv A b4 s H E d,Wϑ7 (by have:=bE cP S.pre;rw[cv]at this;omega) h]
def YG(d:∀a q,g a=Z q->a.length=i):∀b H Q E,spI G c g b H Q E->b.length=i+1:=λb H Q E h=>by obtain⟨p,l,t,j,a,o,m,rfl,_,_,_,r,e,_⟩:=h;rw[aU,<- vH r,d _ _ e]
theorem aej{ps:aB}(a:g=rl c i n b)(d:ps.length=i)(hN:N.length=n)(F:Xi K x qual st f fd)(S:yJ N (p::ps) (v8 st))(body:∀(cdv:ab) (A:aR) (b4:List Env) (s:af) (H:Hp) (E:XK),ye k (A.deeper (envOfC qual (v8 st) s.heap.objs.size f cdv))->m? (ID P w K mg a5 N qual st f cdv A b4 s H E) (wM st) (ki G b)):
  zI P w K mg a5 x? (k+1) f fd (p::ps) (spI G c g):=by
 subst a d hN;exact F.ok S (YG λj q h=>(Iq h).1) λcdv A b4 s H l Q E e h=>#v[_,body cdv A b4 s H E e,O7 (by have:=bE cP S.pre;rw[cv,aU]at this;omega) h]
theorem aaN{ps:aB}(a:g=rl c i n b)(d:ps.length=i)(hN:N.length=n)(F:QI K x qual st f fd T)(S:yJ N (p::ps) (v8 st))(body:∀(cdv:ab) (A:aR) (b4:List Env) (s:af) (H:Hp) (E:XK),ye k (A.deeper (envOfC qual (v8 st) s.heap.objs.size f cdv))->m? (ID P w K mg a5 N qual st f cdv A b4 s H E) (wM st) (ki G b)):
  zI P w K mg a5 x? (k+1) f fd (p::ps) (spI G c g):=by
 subst a d hN;exact F.ok S (YG λj q h=>(Iq h).1) λcdv A b4 s H l Q E e h=>#v[_,body cdv A b4 s H E e,O7 (by have:=bE cP S.pre;rw[cv,aU]at this;omega) h]
end
section
variable{X:Cx}{G:Bg}
def Bj(G:Bg)(a:Str->Option ab)(x:Str)(d:D):Prop:=∃(v:V) (u:ab),a x=Z u/\dd v u/\∀H,cm G H d v
def Tc(h:Bj G X.mg x d)(e:autoParam (Gl X x) zA0._auto_1)(hd:autoParam ((x==("__debug__" : Str))=δ) zA1._auto_1):PE X (.Name x pos) (tF G (cC d)):=by obtain⟨v,u,a,b,c⟩:=h;exact Wl (HJ e a b hd) c
def QY:FS:=λt=>O
def xy(T:String):Ty->Option Bool
 |.b n=>if n="NoneType" then Z δ else if n="bool" then Z (T=="bool" ||T=="int")else if n="int" then Z (T=="int")else if n="str" then Z (T=="str")else if n="tuple" then Z (T=="tuple")else if n="list" then Z (T=="list")else if n="dict" then Z (T=="dict")else O
 |.c _=>O
def Td:∀k b,xy T (.c k)=Z b->JF X.K (G.ca k):=λk b h=>by cases h
def N3:List String:=["NoneType", "bool", "int", "str", "tuple", "list", "dict"]
def IE{T:String}(h:(N3.all λn=>decide (cM X.K ((Ty.b n).val G) (.type T)=xy T (.b n)))=γ):∀y b,xy T y=Z b->cM X.K (y.val G) (.type T)=Z b:=λy b e=>by
 cases y with
 |c k=>cases e
 |b n=>
  by_cases a:n∈N3
  .rw[bh (aH.1 h n a)];exact e
  .simp only[N3,aM,cg,or_false,not_or]at a;simp[xy,a]at e
set_option r "Te list;W0 str" in def ϑ0:∀y b,xy "ϑ1" y=Z b->cM X.K (y.val G) (.type "ϑ1")=Z b:=IE (by kernel_rfl)
end
end L4
namespace L3
open PySem PySem.Spec PyProof.Rows L2
def W1{X:Cx}{spos:Pos}{d3:List Nat}
  (M:X.mi=γ) (hN:X.N.Nodup) (T:X.N[i]?=Z y) (hyl:Loc X.a4.scope y) (P:PI X r iter wi)
  (body:∀(l:List (Str×Addr)) (C:Addr) (p:List Addr) (s:af) (H:Hp),PG (xJ X c scope l C p s H) r g/\PIf (xJ X c scope l C p s H) ifs tt/\PE (xJ X c scope l C p s H) elt te)
  (hkind:autoParam (scope.kind=.function) zA0._auto_1) (hcell:autoParam ((scope.names.all λy=>y.2 != .cell)=γ) zA0._auto_1)
  (hloc:autoParam ((scope.names.all λy=>y.2 != .local||scope.names.lookup y.1==Z .local)=γ) zA0._auto_1)
  (hfree:autoParam ((scope.names.all λy=>y.2 != .free||(X.a4.kindOf y.1==Z .cell||X.a4.kindOf y.1==Z .free))=γ) zA0._auto_1)
  (f:autoParam (c.length=k+d3.length) zA0._auto_1) (hcap:autoParam ((c.drop k).map Z=d3.map λj=>X.N[j]?) zA0._auto_1)
  (hcf:autoParam (((c.drop k).all λx=>scope.names.lookup x==Z .free)=γ) zA0._auto_1)
  (S:autoParam (∀x,jb iter X.a4 x=pure x) zA3._auto_1)
  (hsw:autoParam (dQ (.ListComp elt [#v[r,iter,ifs,0]] scope pos) (Z (.Name y Y)) spos.line X.a4=pure γ) zA0._auto_1)
  (hfy:autoParam (X.fn y=γ\/X.a4.scope.names.lookup y=Z .local) zA2._auto_1):
  PS X (.Assign [.Name y Y] (.ListComp elt [#v[r,iter,ifs,0]] scope pos) spos) (E7 (G3 wi g tt te k d3) (Be i)):=by
 intro B s σ H D I h;rw[exec_Assign_Name_used _ _ _ _ hsw];refine ai (rF (ai ?_));refine ai (cA (JY M P body hkind hcell hloc hfree f hcap hcf S I h λa C m u s4 F Q z3 fpC qn=>?_) (λ_ s' R=>ar (ar R)) λ_ _ e=>e);obtain⟨oC,esC,nC,gC,dC,rC⟩:=id Q;have J:=z3.I' (λb d=>bu.1 d▸fpC) (λb d=>bu.1 d▸#v[oC,gC,λv z=>by rw[dC]at z;cases z]);refine e3 (OP hN T hyl hfy _ s4 σ F (.ref a) (.ref a) (λt E=>D.nx t E) J U qn) λ_ s6 zz=>?_;obtain⟨w,G,A,q6⟩:=zz;obtain⟨W,p2,_⟩:=A.Dx (C,oC) (bx _ (bx _ (AI (by simp) gC)));exact#v[m,#v[oC,esC,nC,W,dC,rC],λh' q=>#v[w,G,A.mq.ix (λb o d e=>(q.2 b d).t e) p2 fpC.2.1 fpC.2.2.2.1 fpC.2.2.2.2.1 fpC.2.2.2.2.2,q6]]
end L3
namespace L4
open PySem PySem.Spec PyProof.Rows L2 L3
section
variable{X:Cx}{G:Bg}
def IF{st:Stmt}(h:PS X st (E7 d g))(w:∀b H Q,a b H Q->d b H Q):PS X st (E7 a g):=PS.b? h λE b H c=>w _ _ _ c
def QZ{st:Stmt}{d3:List Nat}(c:d3.Nodup)(h:PS X st (E7 (G3 (L' G s) (tFG G k g) (l0 G b) (tF G a) k d3) (Be i))):PS X st (ki G (xO i (vE k d3 s g b a))):=Ml (IF h (KR c))
def Tf{st:Stmt}{d3:List Nat}(c:d3.Nodup)(h:PS X st (E7 (G3 (L' G s) (tFG G k g) (l0 G b) (tF G a) k d3) (Be i))):PS X st (ki G (vN i (cL (vE k d3 s g b a)))):=O6 (IF (IF h (KR c)) tN_F)
end
section
variable{f g h:FS}{c:FT}{e e' e2:FE}{a a':FA}{ρ ρ' ρ1 ρ2 ρ3:bc}{d x y z:D}{o:A5}{ds xs ys:br}
def vz(h:f ρ=Z (.nx ρ')):a0 f g ρ=g ρ':=by unfold a0;rw[h]
def wg(h:f ρ=Z (.rt d ρ')):a0 f g ρ=Z (.rt d ρ'):=by unfold a0;rw[h]
set_option r "B γ f;9 δ g" in def wϑ0(h:c ρ=Z (ϑ1,ρ')):eg c f g ρ=ϑ2 ρ':=by unfold eg;rw[h]
set_option r "wV e d vN I;W3 a ds xO Y" in def ϑ0(h:ϑ1 ρ=Z (ϑ2,ρ')):ϑ3 i ϑ1 ρ=Z (.nx (ρ'.set i (.ϑ4 ϑ2))):=by unfold ϑ3;rw[h]
set_option r "vS e d vA t;xF a ds wW n" in def ϑ0(h:ϑ1 ρ=Z (ϑ2,ρ')):ϑ3 ϑ1 ρ=Z (.rϑ4 ϑ2 ρ'):=by unfold ϑ3;rw[h]
def xP(h:e ρ=Z (d,ρ')):wc e ρ=Z (.nx ρ'):=by unfold wc;rw[h]
def vw{g:D->D->Option D}(b:e ρ=Z (x,ρ1))(i:e' ρ1=Z (y,ρ2))(j:g x y=Z z):c2 g e e' ρ=Z (z,ρ2):=by unfold c2;rw[b];simp only[i,j]
def wt{g:D->Option D}(b:e ρ=Z (x,ρ1))(i:g x=Z z):c1 g e ρ=Z (z,ρ1):=by unfold c1;rw[b];simp only[i]
def N4(b:e (ρ.map Sl.bor)=Z (d,ρ1))(i:yC d=γ):KU e ρ=Z (d,ρ):=by unfold KU;rw[b];simp only[i,if_true]
def Pd(i:c (ρ.map Sl.bor)=Z (b,ρ1)):G4 c ρ=Z (b,ρ):=by unfold G4;rw[i]
def we(i:e ρ=Z (.X b,ρ1)):cT e ρ=Z (b,ρ1):=by unfold cT;rw[i]
def yL(i:c ρ=Z (b,ρ1)):xm c ρ=Z (!b,ρ1):=by unfold xm;rw[i]
def yD(j:c ρ=Z (δ,ρ1))(l:i ρ1=Z (b,ρ2)):xG c i ρ=Z (b,ρ2):=by unfold xG;rw[j];exact l
def vv(b:e ρ=Z (d,ρ1))(i:a ρ1=Z (ds,ρ2)):ax e a ρ=Z (d::ds,ρ2):=by unfold ax;rw[b];simp only[i]
def vt{b:Type}{g:br->Option b}{r:b}(i:a ρ=Z (ds,ρ1))(j:g ds=Z r):Gr g a ρ=Z (r,ρ1):=by unfold Gr;rw[i];simp only[j]
def wj(b:a ρ=Z (ds,ρ1)):cL a ρ=Z (.a3 ds,ρ1):=by unfold cL;rw[b]
def IG(b:a ρ=Z (ds,ρ1))(i:ds.length<=1000):vO a ρ=Z (ds,ρ1):=by unfold vO;rw[b];simp only[i,if_true]
def xu(b:a ρ=Z (ds,ρ1))(i:ds.length<=1000):vQ a ρ=Z (.a7 ds,ρ1):=by unfold vQ;rw[b];simp only[i,if_true]
def xw(b:e ρ=Z (.a3 xs,ρ1))(i:e' ρ1=Z (.a3 ys,ρ2))(j:xs.length+ys.length<=1000):xt e e' ρ=Z (xs++ys,ρ2):=by unfold xt;rw[b];simp only[i,j,if_true]
def za(j:yB ρ i=Z b)(l:e ρ=Z (d,ρ1))(m:yB ρ1 i=Z es)(p:es.length<1000):zT i e ρ=Z (.U,putAt ρ1 i (es++[d])):=by unfold zT;rw[j];simp only[l,m,p,if_true]
def Tg(l:yB ρ i=Z j)(m:a ρ=Z (ds,ρ1))(p:yB ρ1 i=Z b)(q:b.length+ds.length<=1000):Ir i a ρ=Z (.U,putAt ρ1 i (b++ds)):=by unfold Ir;rw[l];simp only[m,p,q,if_true]
def yV{s:FA}{g:FG}(b:s ρ=Z (ds,ρ1)):xS s g f ρ=fu g f ds ρ1:=by unfold xS;rw[b]
def Pe{k:Nat}{d3:List Nat}{s:FA}{g:FG}{i:FT}{b:FE}(j:s ρ=Z (ds,ρ1))(l:ds.length<=1000):vE k d3 s g i b ρ=Eo k d3 g i b ds ρ1:=by unfold vE;rw[j];simp only[l,if_true]
set_option r "Ab n xs qt;vJ t d dr" in def ϑ0(i:ds.length=j)(h:b (L4.w? n ds)=Z (.rϑ1 ϑ2 ρ)):ϑ3 j n b ds=Z ϑ2:=by unfold ϑ3;rw[aj i,h]
end
def yu(h:EK a=γ\/EK b=γ):ym (.int a) (.int b)=Z (.int (a * b)):=by unfold ym dI;simp only;rw[aj (by simpa using h)]
def Cu(h:0<b):vZ (.int a) (.int b)=Z (.int (a % b)):=by unfold vZ dI;simp only;rw[aj (by simpa using h)]
def rz(h:0<b)(c:b<1073741824):wY (.int a) (.int b)=Z (.int (a / b)):=by unfold wY dI;simp only;rw[aj (by simp[h,c])]
def B3(h:0<=a)(b:a<2147483647):EK a=γ:=by unfold EK;simp only[aW,bK];omega
def B4:D->Option d?
 |.int i=>Z (.inl i)
 |.str x=>Z (.inr x)
 |_=>O
def xn:List d?->br->d?->Option D
 |k::b,d::a,j=>if k=j then Z d else xn b a j
 |_,_,_=>O
def W4(e:List d?)(b:br)(k:d?)(d:D):br:=fC (λc a=>if c=k then d else a) e b
def KY(b:List d?)(k:d?):Bool:=b.any λa=>decide (a=k)
section
variable{X:Cx}{G:Bg}{H:Hp}
def Cv(h:cm G H d v)(e:B4 d=Z k):v=kV k:=by
 cases d<;>first|cases e|skip
 all_goals (unfold cm at h;exact h)
theorem DI:∀{ks:List d?} {b:br} {a:bF} (j:d?),a6 G H b a->ks.length=a.length->match xn ks b j with
  |some d=>∃v,zk (ks.zip a) j=Z v/\cm G H d v
  |none=>zk (ks.zip a) j=O
 |[],b,a,j,r,l=>by cases b<;>rfl
 |k::ks,b,[],j,r,l=>by cases l
 |k::ks,[],x::a,j,r,l=>by unfold a6 at r;cases r
 |k::ks,d::b,x::a,j,r,l=>by
  obtain⟨v,q,e,h,i⟩:=r;cases e;unfold xn;by_cases c:k=j
  .rw[aj c];exact#v[x,Fg c,h]
  .rw[ak c];have m:=DI j i (by simpa using l);have f:zk ((k::ks).zip (x::a)) j=zk (ks.zip a) j:=Fh c;rw[f];exact m
theorem KZ:∀{a:List d?} {b:bF},a.length=b.length->((a.zip b).any λkv=>decide (kv.1=k))=KY a k
 |[],b,_=>by cases b<;>rfl
 |c::a,[],l=>by cases l
 |c::a,x::b,l=>by unfold KY;rw[fK,gH,gH,KZ (by simpa using l)];rfl
theorem Pf:∀{a:List d?} {b:bF},a.length=b.length->(a.zip b).map (λkv=>if kv.1=k then (kv.1,v)else kv)=a.zip (fC (λd x=>if d=k then v else x) a b)
 |[],b,_=>by cases b<;>rfl
 |d::a,[],l=>by cases l
 |d::a,x::b,l=>by
  rw[fK,aV,Pf (by simpa using l),iY,fK];congr 1;by_cases c:d=k
  .rw[aj c,aj c]
  .rw[ak c,ak c]
theorem Mz(hd:cm G H d v):∀{c:List d?} {b:br} {a:bF},a6 G H b a->c.length=a.length->a6 G H (W4 c b k d) (fC (λf x=>if f=k then v else x) c a)
 |[],b,a,r,l=>by unfold W4;cases b<;>cases a<;>exact wC
 |f::c,b,[],r,l=>by cases l
 |f::c,[],x::a,r,l=>by unfold a6 at r;cases r
 |f::c,m::b,x::a,r,l=>by
  obtain⟨w,q,e,i,j⟩:=r;cases e;unfold W4;rw[iY,iY];refine wJ ?_ (Mz hd j (by simpa using l));by_cases h:f=k
  .rw[aj h,aj h];exact hd
  .rw[ak h,ak h];exact i
def _root_.L2.pa.kf(e:H a=Z (.mr o (.dK kvs))):pa H a (kV k) (zk kvs k):=.inl #v[kvs,k,.inr #v[o,e],U,U]
def Er:D->D->Option D:=λx y=>match x,B4 y with
 |.i0 b a,Z k=>xn b a k
 |_,_=>O
def W5(hu:X.A.units+1<cLine)(S:PE X a (tF G f))(T:PE X b (tF G J))(Y:NoSl b:=by exact λs s=>U):PE X (.Subscript a b pos) (tF G (c2 Er f J)):=PE.b? (V9 hu S T Y) λσ H Q W=>by
 obtain⟨F,ρ,r,d,o,R,e,k⟩:=W;obtain⟨x,y,h,E,I,c⟩:=Fk e;refine#v[F,ρ,r,x,h,R,E,λv t z s1 C r1=>#v[F,h,t,y,o,C,I,λu B i q R2 r2=>?_]];have m:=cm.mono q _ _ r1;cases x with
 |i0 ks ds=>
  unfold Er at c;cases l:B4 y with
  |none=>simp only[l]at c;cases c
  |some j=>simp only[l]at c;obtain⟨p,ob,xs,rfl,M,N,P⟩:=m;have lv:=DI j P N;rw[c]at lv;obtain⟨w,w1,w2⟩:=lv;refine#v[p,w,U,?_,k w B i (s1.t q) R2 w2];rw[Cv r2 l,<- w1];exact pa.kf (R2.sub _ _ M)
 |_=>unfold Er at c;cases c
def Dp:D->D->Option D:=λx y=>match x,B4 y with
 |.i0 b a,Z k=>Z ((xn b a k).getD .U)
 |_,_=>O
def Ti(hu:X.A.units+1<cLine)(ha:PE X a (tF G f))(hb:PE X b (tF G Y))(m:M1 X a "get" apos b cpos):PE X (.Call (.Attribute a "get" apos) [b] [] cpos) (tF G (c2 Dp f Y)):=PE.b? (Su hu ha hb m) λσ H Q hh=>by
 obtain⟨F,ρ,M,d,r,R,e,k⟩:=hh;obtain⟨x,y,i,T,W,c⟩:=Fk e;cases x with
 |i0 I S=>
  refine#v[F,ρ,M,_,i,R,T,λv N P J B r1=>?_];have q:=r1;obtain⟨p,ob,xs,rfl,E,h2,h3⟩:=q;refine#v[p,U,.inl #v[_,.inr #v[_,B.sub _ _ E]],F,i,N,y,r,B,W,λu t h l R2 r2=>?_];unfold Dp at c;cases o:B4 y with
  |none=>simp only[o]at c;cases c
  |some j=>
   simp only[o]at c;cases c;have lv:=DI j (a6.mono l _ _ h3) h2;refine#v[zk (I.zip xs) j,?_,?_]
   .rw[Cv r2 o];exact pa.kf (R2.sub _ _ (l _ _ E))
   .cases C:xn I S j with
    |none=>rw[C]at lv k;rw[lv];exact k _ t h (J.t l) R2 Ak
    |some z=>rw[C]at lv k;obtain⟨w,w1,w2⟩:=lv;rw[w1];exact k _ t h (J.t l) R2 w2
 |_=>unfold Dp at c;cases c
def IH(i:Nat):FS:=λa=>Z (.nx (a.set i (.dk [] [])))
def Tj{st:Stmt}(h:PS X st (E7 NS (Be i))):PS X st (ki G (IH i)):=PS.b? h λE u H l=>by obtain⟨F,r,m,o,R,e,k,q⟩:=l;cases e;intro p b;have c:=R.ff b (.dK []);refine k _ _ _ (vX.refl _) (c.set #v[p,[],U,vI,R.er b,R.fg b,U,wC] λs a d j t s f to=>?_);cases d;exact R.apart b j t f to
def zJ(i:Nat)(fk fv:FE):FS:=λf=>match fv f with
 |some (d,b)=>match b[i]? with
  |some (.dk _ _)=>match fk b with
   |some (y,c)=>match B4 y with
    |some k=>match c[i]? with
     |some (.dk a e)=>if a.length<1000 then if e.length=a.length then Z (.nx (c.set i (if KY a k=γ then .dk a (W4 a e k d)else .dk (a++[k]) (e++[d]))))else O else O
     |_=>O
    |none=>O
   |none=>O
  |_=>O
 |none=>O
set_option h true
def Tn{st:Stmt}(h:PS X st (Yv (EE i) (tF G Q) (tF G S))):PS X st (ki G (zJ i Q S)):=PS.b? h λE σ H hh=>by
 obtain⟨F,q,Y,o,R,e,k,k2⟩:=hh;unfold zJ at e;rcases wm (f:=S) (ρ:=q)with t|⟨d,c,t⟩<;>simp only[t]at e
 .cases e
 split at e
 .rename_i ks0 ds0 ei;rcases wm (f:=Q) (ρ:=c)with w|⟨y,C,w⟩<;>simp only[w]at e
  .cases e
  cases z:B4 y with
  |none=>simp only[z]at e;cases e
  |some j=>
   simp only[z]at e;split at e
   .rename_i A ds l;split at e
    .rename_i hl;split at e
     .rename_i hl2;cases e;refine#v[F,q,Y,d,c,R,t,λv H1 H1' s1 I r1=>?_];obtain⟨m,xs0,a1,_⟩:=I.sl i _ ei;refine#v[_,zS a1,F,c,H1,y,C,I,w,λu H2 r W R2 r2=>?_];obtain⟨a,B,J,b2,M,N,b,P⟩:=R2.sl i _ l;rw[a1]at J;cases J;refine#v[m,ef r m (.dK (gw (A.zip B) j v)),U,?_,?_]
      .rw[Cv r2 z];exact Sq.k b2 (by rw[il];exact gn (Nat.min_le_left _ _) (BZ (by omega)))
      .have T:=cm.mono W _ _ r1;refine k _ _ _ (s1.t W) (R2.mut l U a1 (λH' hH=>?_) ?_)
       .by_cases p:KY A j=γ
        .rw[aj p];refine#v[m,fC (λk' x=>if k'=j then v else x) A B,U,?_,M,N,by rw[lS,b,gQ],Mz T P b];rw[hH];unfold gw;rw[KZ b,aj p,Pf b]
        .rw[ak p];refine#v[m,B++[v],U,?_,M,N,by rw[aA,aA,b];rfl,xN P (wJ T wC)];rw[hH];unfold gw;rw[KZ b,ak p,mL b];rfl
       .split<;>rfl
     .cases e
    .cases e
   .cases e
 .cases e
set_option h false
def HE:D->Option D
 |.a3 a=>(JE a).map λbs=>.X (bs.any id)
 |_=>O
def Q3(x:X.mi=γ)(hK:autoParam (X.K=G.K) zA0._auto_1):xH X (.builtin "any") (λw H Q=>∃(p:Addr) (bs:List Bool),w=[.ref p]/\e8 G.K H p (bs.map V.X)/\Q (.X (bs.any id)) H):=by
 rw[<-hK];intro m s T H w S Q I r h;obtain⟨p,bs,rfl,C,q⟩:=h;obtain⟨u,rfl,j⟩:=j? r;cases j;obtain⟨f,t,pl,N⟩:=I.list C;have hlt:p<s.heap.objs.size:=by obtain⟨o,B,_⟩:=pl.isList;exact bb B
 have z:=by have:=t.length;rw[ae]at this;exact this
 refine call_any_walk (ig pl.isList #v[s.heap.objs.size,_,_,_,_,_,λi=>(bs[i]?).getD δ,U,js (show X.A.in1.handled=O from I.ok.hd x) _ p (bj hlt) f.toArray,#v[#v[_,bA _ U,U,U],?_],?_,λM R y=>?_])
 .exact pl.isList.at λo e=>aT _ e
 .intro i v P J F E hQ';have c:=by simpa using E
  have a:=(bY.1 c).1;have d:(bs.map V.X)[i]?=Z (.X (bs[i]'(by omega))):=by simp[show i<bs.length by omega]
  obtain⟨u,l,j⟩:=t.get d;rw[c]at l;cases l;cases j;refine dG ?_;have e:(bs[i]?).getD δ=bs[i]'(by omega):=by simp[show i<bs.length by omega]
  rw[<-e];exact hQ'
 .refine#v[.X (bs.any id),H,?_,?_,q]
  .exact I.fh λb o e=>y b o (by simp;exact bj (bb e)) (aT _ e)
  .show Value.bool _=Value.bool _;congr 1;rw[bp,<- z];rw[d6];simp only[fN,bB,id];constructor
   .rintro⟨i,a,h⟩;exact#v[bs[i],fj a,by simpa [a]using h]
   .rintro⟨b,d,h⟩;obtain⟨i,a,rfl⟩:=lE.1 d;exact#v[i,a,by simpa [a]using h]
def aaO:J2 G (λd H Q=>∃(p:Addr) (bs:List Bool),d=[.ref p]/\e8 G.K H p (bs.map V.X)/\Q (.X (bs.any id)) H) HE:=λx z j H v Q e s i k=>by
 cases x with
 |a3 f=>
  unfold HE at e;simp only at e;cases b:JE f with
  |none=>rw[b]at e;cases e
  |some bs=>rw[b]at e;cases e;obtain⟨a,d,rfl,c,h⟩:=i;rw[IC h b]at c;exact#v[a,bs,U,s.seq (e8.of c),k _ λt t=>yw _]
 |_=>cases e
def iS(f:FE):FA:=λb=>match f b with
 |some (.str x,a)=>Z (x.cps.toList.map λc=>D.str #v[#[c]],a)
 |_=>O
set_option h true
def W6(h:PI X M e (iStr (tF G f))):PI X M e (L' G (iS f)):=PI.b? h λσ H R E=>by
 obtain⟨F,N,p,Y,P,R,e,k⟩:=E;unfold iS at e;split at e
 .rename_i x Q B;cases e;refine#v[F,N,p,_,_,R,B,λv S q s A r=>?_];refine#v[x,r,k _ _ _ s A λi u w t J=>#v[λd j=>?_,λI=>?_]]
  .rw[bg]at j;cases m:x.cps.toList[i]? with
   |none=>rw[m]at j;cases j
   |some c=>
    rw[m]at j;cases j;have a:=by simpa using m
    refine#v[(oH.1 a).1,λz T y=>?_];obtain⟨C,W,l,rfl⟩:=y;rw[a]at l;cases l;subst C;exact#v[u,vX.refl _,J,vX.refl _,λb o e=>.inl e,Aj _]
  .show i=x.cps.size;rw[I,ae];simp
 .cases e
set_option h false
def Ft(f g:FE):FE:=λe=>match f e with
 |some (.a7 (x::c),a)=>match g a with
  |some (.a7 d,b)=>if c.length+d.length<=900 then Z (.a7 (x::c++d),b)else O
  |_=>O
 |_=>O
set_option h true
def W7(T:PE X a (tF G f))(W:PE X b (tF G g))(hK:autoParam (X.K=G.K) zA0._auto_1):PE X (.BinOp a .Add b pos) (tF G (Ft f g)):=PE.b? (RW V4 T W) λσ H Q Y=>by
 rw[hK];obtain⟨F,ρ,y,d,ρ',R,e,k⟩:=Y;unfold Ft at e;split at e
 .rename_i x xs c J;split at e
  .rename_i ys ρ2 M;split at e
   .rename_i hl;cases e;refine#v[F,ρ,y,_,c,R,J,λv A B s E r=>#v[F,c,A,_,_,E,M,λu H2 C l R2 r2=>?_]];have w:=cm.mono l _ _ r;have r0:=w;obtain⟨a1,m,rfl,P,q⟩:=w;obtain⟨I,o,rfl,S,t⟩:=r2;have h:=vH q;have j:=vH t;rw[aU]at h;refine#v[a1,I,m,o,U,U,e?.mono R2.sub P,e?.mono R2.sub S,(λz=>by rw[z]at h;cases h),by rw[<-h,<- j];exact y9 (by omega),λz=>?_,λ_ p i=>?_]
    .have N:=by rw[z]at j;exact hZ.1 j
     subst N;rw[cf]at k;exact k _ _ _ (s.t l) R2 r0
    .exact k _ _ _ ((s.t l).t (vV (R2.er i) _)) (R2.wh i _) (D7 (e?.of vI) (a6.mono (vV (R2.er i) _) _ _ (xN q t)))
   .cases e
  .cases e
 .cases e
end
set_option h false
section
variable{X:Cx}{G:Bg}
abbrev FO:=bc->Option (Option Int×bc)
inductive ItFO(G:Bg) (f:FO) (σ:St) (H:Hp) (Q:(Option Int->Hp->Prop)):Prop
 |i (F ρ H0 d ρ') (h0:bt G F σ ρ H0 H) (h1:f ρ=Z (d,ρ')) (h2:∀H0' H',vX H0 H0'->bt G F σ ρ' H0' H'->Q d H'):ItFO G f σ H Q
def tFO(G:Bg)(f:FO):TO:=λa H Q=>ItFO G f a H Q
def oNo:FO:=λa=>Z (O,a)
def o3(f:FE):FO:=λb=>match f b with
 |some (.int i,a)=>Z (Z i,a)
 |_=>O
def PO.b?(h:PO X e t)(w:∀b H Q,d b H Q->t b H Q):PO X e d:=λa s b H Q I c=>h a s b H Q I (w _ _ _ c)
def aaP:PO X O (tFO G oNo):=PO.b? OX λh H Q a=>by obtain⟨F,f,c,d,b,R,e,k⟩:=a;cases e;exact k _ _ (vX.refl _) R
set_option h true
def aaQ(h:PE X e (tF G f)):PO X (Z e) (tFO G (o3 f)):=PO.b? (OY h) λt H Q l=>by
 obtain⟨F,m,a,d,o,R,e,k⟩:=l;unfold o3 at e;split at e
 .rename_i i p j;cases e;refine#v[F,m,a,_,_,R,j,λv q b s c r=>?_];unfold cm at r;exact#v[i,r,k _ _ s c]
 .cases e
set_option h false
def Dy(f:FE)(lo hi:FO):FA:=λi=>match f i with
 |some (d,c)=>match d with
  |.a3 e=>match lo c with
   |some (l,a)=>match hi a with
    |some (h,b)=>Z (fb e l h,b)
    |none=>O
   |none=>O
  |.nq e=>match lo c with
   |some (l,a)=>match hi a with
    |some (h,b)=>Z (fb e l h,b)
    |none=>O
   |none=>O
  |_=>O
 |none=>O
def N5{lo:FO}(h:PE X e (tSl (Qz G.K) (tF G f) (tFO G lo) (tFO G w))):PE X e (tH G (Dy f lo w)):=PE.b? h λσ H Q hh=>by
 obtain⟨F,q,M,Y,E,R,e,k⟩:=hh;unfold Dy at e;rcases wm (f:=f) (ρ:=q)with y|⟨d,c,y⟩<;>simp only[y]at e
 .cases e
 have n9:∀(i:br),(∀{m:Hp} {v:V},cm G m d v->∃a j,v=.ref a/\e8 G.K m a j/\a6 G m i j)->(match lo c with
   |some (l,b)=>match w b with
    |some (h,t)=>Z (fb i l h,t)
    |none=>O
   |none=>O)=Z (Y,E)->tSl (Qz G.K) (tF G f) (tFO G lo) (tFO G w) σ H Q:=λi rd e=>by
  rcases wm (f:=lo) (ρ:=c)with z|⟨l,b,z⟩<;>simp only[z]at e
  .cases e
  rcases wm (f:=w) (ρ:=b)with A|⟨u,t,A⟩<;>simp only[A]at e
  .cases e
  cases e;refine#v[F,q,M,d,c,R,y,λv m N s1 W r1=>#v[F,c,m,l,b,W,z,λP S I R2=>#v[F,b,P,u,_,R2,A,λH3 T J o=>?_]]];obtain⟨a,j,rfl,B,C⟩:=rd (cm.mono (I.t J) _ _ r1);exact#v[a,j,U,o.sub.seq B,λp x=>k p _ _ _ (s1.t (I.t J)) (o.ff x _) vI (o.er x) (o.fg x) (o.apart x) (Fq C)]
 cases d with
 |a3 i=>exact n9 i (λr=>by unfold cm at r;obtain⟨a,j,rfl,B,C⟩:=r;exact#v[a,j,U,e8.of B,C]) e
 |nq i=>exact n9 i (λr=>by unfold cm at r;exact r) e
 |_=>cases e
def II:D->D->Option D
 |.str x,.int n=>if 0<=n/\n<=1000/\x.length<=100 then Z (.str (fF x n))else O
 |_,_=>O
end
section
variable{X:Cx}{G:Bg}
def DJ(f e h:FE):FE:=λj=>match f j with
 |some (.i0 i d,a)=>match e a with
  |some (y,b)=>match h b with
   |some (x,c)=>match B4 y with
    |some k=>Z ((xn i d k).getD x,c)
    |none=>O
   |none=>O
  |none=>O
 |_=>O
set_option h true
def To(hu:X.A.units+1<cLine)(ha:PE X a (tF G f))(hb:PE X b (tF G P))(hc:PE X c (tF G S))(m:M2 X a "get" apos b c cpos):PE X (.Call (.Attribute a "get" apos) [b,c] [] cpos) (tF G (DJ f P S)):=PE.b? (Sv hu ha hb hc m) λσ H Q hh=>by
 obtain⟨F,I,H0,d,ρ',R,e,k⟩:=hh;unfold DJ at e;split at e
 .rename_i o ds h e1;rcases wm (f:=P) (ρ:=h)with B|⟨y,i,B⟩<;>simp only[B]at e
  .cases e
  rcases wm (f:=S) (ρ:=i)with C|⟨x,ρ3,C⟩<;>simp only[C]at e
  .cases e
  cases E:B4 y with
  |none=>simp only[E]at e;cases e
  |some j=>
   simp only[E]at e;cases e;refine#v[F,I,H0,_,h,R,e1,λv H1 H1' Y M W=>?_];unfold cm at W;obtain⟨p,ob,xs,rfl,T,h2,h3⟩:=W;refine#v[p,U,.inl #v[_,.inr #v[_,M.sub _ _ T]],F,h,H1,y,i,M,B,λu H2 H2' q R2 r2=>#v[F,i,H2,x,_,R2,C,λz J l r t r3=>?_]];have lv:=DI (ks:=o) j (a6.mono (q.t r) _ _ h3) h2;refine#v[zk (o.zip xs) j,?_,?_]
   .rw[Cv r2 E];exact pa.kf (t.sub _ _ (r _ _ (q _ _ T)))
   .cases N:xn o ds j with
    |none=>rw[N]at lv k;rw[lv];exact k _ J l (Y.t (q.t r)) t r3
    |some w=>rw[N]at lv k;obtain⟨w',w1,w2⟩:=lv;rw[w1];exact k _ J l (Y.t (q.t r)) t w2
 .cases e
set_option h false
def N6(G:Bg)(c:Nat)(t:Ty->Option Bool):Prop:=(∀y b,t y=Z b->cM G.K (y.val G) (.ref (G.ca c))=Z b)/\∀j b,t (.c j)=Z b->JF G.K (G.ca j)
def N7(h:N6 G c t)(hK:autoParam (X.K=G.K) zA0._auto_1):xH X (.builtin "isinstance") (λa H Q=>∃d x b,a=[x,(Ty.c c).v G]/\cm G H d x/\t (tyD d)=Z b/\Q (.X b) H):=
 J3 (X:=X) (.c c) (by rw[hK];exact h.1) (by rw[hK];exact h.2) hK
end
def W'(acc:List d?)(k:d?):List d?:=if acc.any (λz=>decide (z=k))then acc else acc++[k]
def Bd(a:List d?):List d?:=a.foldl W' []
def W8(acc:List d?)(k j:d?):(W' acc k).any (λz=>decide (z=j))=(acc.any (λz=>decide (z=j))||decide (j=k)):=by
 unfold W';by_cases h:acc.any (λz=>decide (z=k))=γ
 .rw[aj h];by_cases e:j=k
  .subst e;rw[h];simp
  .simp[e]
 .rw[ak h,List.any_append];by_cases e:j=k
  .subst e;simp
  .have a:¬k=j:=λz=>e z.symm;simp[a,e]
def Pg(acc:List d?)(k:d?):(W' acc k).length=if acc.any (λz=>decide (z=k))=γ then acc.length else acc.length+1:=by unfold W';split<;>simp
def J4(a:List d?)(i:Nat)(h:i<a.length):Bd (a.take (i+1))=W' (Bd (a.take i)) a[i]:=by unfold Bd;rw[gu,aO h,qc];rfl
def Tp(a:List d?):(Bd a).length<=a.length:=by
 have n9:∀(l:List d?) (acc:List d?),(l.foldl W' acc).length<=acc.length+l.length:=by
  intro l
  induction l with
  |nil=>intro acc;simp
  |cons k l b=>
   intro acc;rw[jj,aU];have c:=b (W' acc k);have d:(W' acc k).length<=acc.length+1:=by rw[Pg];split<;>omega
   omega
 have:=n9 a [];simpa [Bd]using this
def set_same{h:Heap}(hS:h.SetOf (v5 prog w) a S n)(e:∀k,S k=b k)(c:n=d):h.SetOf (v5 prog w) a b d:=by obtain rfl:S=b:=funext e;subst c;exact hS
section
variable{prog:aL}{w:aE}{A:aR}{R:gX->af->Prop}{I:Addr}{fp wr:List Addr}{GG:Array gV->Array gV->Prop}{n:Nat}{PP:Nat->ab->Prop}{SS:Nat->af->Prop}
def Tq(W:WalksS prog w A.in1 I fp wr GG n PP SS)(S:Addr)(hSf:S∉fp)(a:List d?)(F:a.length=n)
  (hval:∀i v (h:i<a.length),PP i v->(v5 prog w).is a[i] v=γ/\v.scannable=γ) (E:n+1<scanBound):∀(k i:Nat) (s:af),n - i=k->i<=n->SS i s->
   s.heap.SetOf (v5 prog w) S (λj=>(Bd (a.take i)).any (λz=>decide (z=j))) (Bd (a.take i)).length->
   (∀c,Moved (S::wr) GG s c->c.heap.SetOf (v5 prog w) S (λj=>(Bd a).any (λz=>decide (z=j))) (Bd a).length->R (.ok (.ret .none)) c)->
   cG (model prog w) A (.builtin "set.update.loop" #v[[.ref S,.ref I],[]]) R s:=by
 have hSw:=λz=>hSf ((W).sub _ z);have up:∀b∈wr,b∈S::wr:=λb z=>a9 _ z;intro k
 induction k with
 |zero=>
  intro i s x u hst hS hR;obtain rfl:i=n:=by omega
  refine d7 ia ?_;rw[eQ dY _];show ao _ A.in1 (pyNext (.ref I)>>=_) _ _ s;refine ai (W.done s _ _ hst λc d=>?_);rw[ic (by omega)]at hS;refine ar (hR c (d.mono up) ?_);obtain⟨o,m,l,t,p,more⟩:=hS;exact#v[o,m,l,t,d.heap S _ hSw p,more]
 |succ k B=>
  intro i s x u hst hS hR;have hlt:i<n:=by omega
  have hlk:i<a.length:=by omega
  refine d7 ia ?_;rw[eQ dY _];show ao _ A.in1 (pyNext (.ref I)>>=_) _ _ s;refine ai (W.item i s _ _ hlt hst λv c hP hst' d=>?_);obtain⟨kv,C⟩:=hval i v hlk hP;have hS':c.heap.SetOf (v5 prog w) S (λj=>(Bd (a.take i)).any (λz=>decide (z=j))) (Bd (a.take i)).length:=by obtain⟨o,m,l,t,p,more⟩:=hS;exact#v[o,m,l,t,d.heap S _ hSw p,more]
  refine ai (cJ ?_);unfold setAdd;refine cJ ?_;refine ai ((v5 prog w).pyHash kv ?_);have room:(Bd (a.take i)).length+1<scanBound:=by have:=Tp (a.take i);rw[cv]at this;omega
  refine wpAny_setAddHashed_of kv C hS' room λr hsb hS2=>?_;have hSi:r.SetOf (v5 prog w) S (λj=>(Bd (a.take (i+1))).any (λz=>decide (z=j))) (Bd (a.take (i+1))).length:=
   set_same hS2 (λj=>by rw[J4 a i hlk,W8]) (by rw[J4 a i hlk,Pg])
  refine ar #v[gL dY _,B (i+1) _ (by omega) hlt (W.frame _ c _ _ hst' (fW _) λb z o e=>?_) hSi λq f hS''=>?_]
  .rw[hsb.2 b (λy:b=S=>hSf (by rw[<-y];exact z))];exact e
  .refine hR q (kj W.gtrans ((d.mono up).then_heap (fW _) λb o z e=>?_) f) hS'';rw[hsb.2 b (λy:b=S=>z (by rw[y];exact ba))];exact e
end
def W9(l:Addr)(us:Array ab)(m:Nat)(b:Addr)(o:Obj)(ws:Array ab)(f:Nat)(e:o.cls=.type "tuple")(hd:o.data=.seq ws f)(E:¬(!us.isEmpty&&iU (us.size+ws.size))=γ)(i:us.size<=aJ)(j:us.size+ws.size<=aJ+1):
  Meets (fG.«list.extend» #v[[.ref l,.ref b],[]]) (λ_ R s=>s.heap.get? l=Z { cls:=.type "list", data:=.seq us m }/\s.heap.get? b=Z o/\R (.ok (.ret Value.none)) { s with heap:=s.heap.update l (eE λx=>x++ws),toks:=s.toks }):=by
 obtain⟨c,q,data,sl⟩:=o;cases e;cases hd;refine .of_wp λprog w A R s h=>?_;obtain⟨z,g,d,tk,os⟩:=s;obtain⟨a,hb,h⟩:=h;have r:=AutoSeq1.sub_tuple_tuple;have t:=AutoSeq1.sub_list_list;have u:=AutoSeq1.sub_tuple_list;have y:=AutoSeq1.sub_list_tuple;have p:(us++ws).size<=aJ+1:=Array.size_append (xs:=us) (ys:=ws)▸j
 wp_walk using (mM a U (hz:=i) (_hz':=p)),oM a,oM hb
 exact#v[_,U,h]
section
variable{X:Cx}{G:Bg}
inductive J5(K:aw) (x:V) (vs:bF) (H:Hp) (Q:VK):Prop
 |i (l b xs zs) (h0:x=.ref l) (h1:vs=[.ref b]) (h2:H l=Z (.a3 xs)) (h3:e? K H b zs) (h4:xs.length+zs.length<=aJ) (h5:Q .U (ef H l (.a3 (xs++zs)))):J5 K x vs H Q
def MA(K:aw):V->bF->Hp->VK->Prop:=λx a H Q=>J5 K x a H Q
def N8:MtM X "list.extend" (MA X.K):=by
 intro i s R H x M v J Q I C B h;obtain⟨l,b,N,P,rfl,rfl,hH,hB,F,q⟩:=h;cases C;obtain⟨u,rfl,A⟩:=B.one;cases A;obtain⟨z,c,n,r,E,e⟩:=I.I? hH;obtain⟨a,j,⟨o,m,p,y,hd⟩,w⟩:=I.tuple hB;have t:=j.length;have d:c.toArray.size+a.toArray.size<=aJ:=by rw[bp,bp];omega
 have hlong:¬(!c.toArray.isEmpty&&iU (c.toArray.size+a.toArray.size))=γ:=by rw[LZ d,qX];exact bH
 refine fX jR #v[_,e,U] pC (pb _ _)
  (W9 l c.toArray n b o a.toArray y p hd hlong (by rw[bp];omega) (by omega)) #v[e,m,?_]
 refine#v[.U,_,I.lset (its':=c++a) hH e (by simp) (r.append j) ?_,U,q];rw[aA];omega
def Es(i:Nat)(f:FE):FE:=λd=>match yB d i with
 |some _=>match f d with
  |some (.a7 c,a)=>match yB a i with
   |some b=>if b.length+c.length<=1000 then Z (.U,putAt a i (b++c))else O
   |none=>O
  |_=>O
 |none=>O
set_option h true
def N9(h:PE X e (tBM G.K "list" (MA G.K) (EE i) (E9 (tF G f) Jy))):PE X e (tF G (Es i f)):=PE.b? h λσ H Q A=>by
 obtain⟨F,c,w,d,P,R,e,k⟩:=A;unfold Es at e;cases j:yB c i with
 |none=>simp only[j]at e;cases e
 |some z=>
  simp only[j]at e;rcases wm (f:=f) (ρ:=c)with l|⟨x,b,l⟩<;>simp only[l]at e
  .cases e
  .cases x with
   |a7 Y=>
    cases m:yB b i with
    |none=>simp only[m]at e;cases e
    |some W=>
     simp only[m]at e;split at e
     .rename_i B;cases e;obtain⟨a,M,r,E,s3,_⟩:=zU R j;refine#v[.ref a,r,.inl #v[U,M,e8.of E],F,c,w,_,b,R,l,λv S y s q rs=>?_];unfold cm at rs;obtain⟨p,N,rfl,C,rs⟩:=rs;obtain⟨T,o,t,I,u,J⟩:=zU q m;rw[r]at t;cases t;refine#v[a,p,o,N,U,U,I,e?.mono q.sub C,?_,k _ _ _ s (J _ _ (xN u rs)) Ak];rw[<-vH u,<- vH rs];exact y9 B
     .cases e
   |_=>cases e
end
set_option h false
section
variable{X:Cx}{G:Bg}{H:Hp}
def aaR{h:cO}{E:St}{s:af}{d:D}{v:V}{u:ab}(I:b0 X h E H s)(hK:X.K=G.K)(hd:cm G H d v)(c:dd v u)(B:∀k r e,d=.obj k r e->JF X.K (G.ca k)):
  ∃HH:Heap->Prop,W.KitX X.K u ((tyD d).val G) HH/\HH s.heap/\u≠.builtin "__main__.__loader__#opaque" := by
 cases d with
 |U=>unfold cm at hd;subst hd;cases (show u=Value.none from c);exact#v[_,r6,True.intro,λz=>nomatch z]
 |X x=>unfold cm at hd;subst hd;cases (show u=Value.bool x from c);exact#v[_,sd,True.intro,λz=>nomatch z]
 |int x=>unfold cm at hd;subst hd;obtain⟨t,q⟩:=(show ∃t,u=Value.int x t from c);cases q;exact#v[_,W.kitx_int,True.intro,λz=>nomatch z]
 |str x=>unfold cm at hd;subst hd;obtain⟨t,q⟩:=(show ∃t,u=Value.str x t from c);cases q;exact#v[_,W.kitx_str,True.intro,λz=>nomatch z]
 |a7 e=>obtain⟨a,f,rfl,b,l⟩:=hd;cases c;rw[<-hK]at b;obtain⟨p,_,⟨o,i,j,_⟩,_⟩:=I.tuple b;exact#v[_,ng,#v[o,i,j],λz=>nomatch z]
 |a3 e=>obtain⟨a,f,rfl,b,l⟩:=hd;cases c;obtain⟨_,_,n,_,q⟩:=(show en X.prog X.w H s.heap a (.a3 f) from I.ew a _ b);exact#v[_,jo,#v[_,q,U],λz=>nomatch z]
 |nq e=>obtain⟨a,f,rfl,b,l⟩:=hd;cases c;rw[<-hK]at b;obtain⟨p,_,⟨o,n,i,j,_⟩,_⟩:=I.list b;exact#v[_,jo,#v[o,i,j],λz=>nomatch z]
 |i0 y e=>obtain⟨a,C,f,rfl,b,l,m⟩:=hd;cases c;obtain⟨_,_,_,R,_,o,N,M,i,j,_⟩:=(show en X.prog X.w H s.heap a (.mr C (.dK (y.zip f))) from I.ew a _ b);exact#v[_,iG,#v[o,i,j.1],λz=>nomatch z]
 |Z' y e=>obtain⟨a,f,rfl,⟨o,Q,b,_,m,_⟩,_⟩:=hd;cases c;exact#v[_,iG,#v[o,(show en X.prog X.w H s.heap a (.ext (isO a o)) from I.ew a _ b).1,m.ex.1],λz=>nomatch z]
 |obj k r e=>have ci:=B k r e U;obtain⟨a,F,f,rfl,b,l,m⟩:=hd;cases c;obtain⟨mA,A,_⟩:=E8 I.ew b;obtain⟨P,J,_⟩:=A.look;exact#v[_,W.kitx_own (ci.cl.get _) ci.cl.hd ci.ha ci.hn ci.htk ci.hm,J,λz=>nomatch z]
def Q4(G:Bg)(cs:List Ty):bF:=cs.map (Ty.v G)
def Tr(G:Bg)(cs:List Ty):List ab:=cs.map (Ty.val G)
def Tt(cs:List Ty){a:List ab}(r:c6 (Q4 G cs) a):a=Tr G cs:=by
 induction cs generalizing a with
 |nil=>cases r;rfl
 |cons c cs b=>
  cases r with
  |cons r d=>
   obtain rfl:_=c.val G:=by cases c<;>exact r
   exact bE _ (b d)
def Ph(G:Bg)(cs:List Ty)(t:Ty->Option Bool):Prop:=(∀y b,t y=Z b->W.kitAny G.K (y.val G) (Tr G cs)=Z b)/\∀j b,t (.c j)=Z b->JF G.K (G.ca j)
def Oa{cs:List Ty}{t:Ty->Option Bool}(f:Ph G cs t)(hK:autoParam (X.K=G.K) zA0._auto_1):xH X (.builtin "isinstance") (λj H Q=>∃d x b tp,j=[x,.ref tp]/\H tp=Z (.a7 (Q4 G cs))/\cm G H d x/\t (tyD d)=Z b/\Q (.X b) H):=by
 intro i s Y H j S Q I r h;obtain⟨d,x,b,tp,rfl,m,hd,e,q⟩:=h;obtain⟨u,T,rfl,C,a⟩:=vals2 r;cases a;obtain⟨HH,AT,z,p⟩:=aaR I hK hd C λk N M y=>by subst y;rw[hK];exact f.2 k b e
 obtain⟨_,o,E,⟨⟨c,J,F,P⟩,A,B,n,q3⟩,_⟩:=(show en X.prog X.w H s.heap tp (.a7 (Q4 G cs)) from I.ew tp _ m);cases B;cases q3;have l:=Tt cs E;subst l;exact W.kia_tup AT I.ma z A (by rw[hK];exact f.1 _ _ e) p λR=>#v[.X b,H,I.ri _,U,q]
def tCls(G:Bg):List Ty->TA
 |[]=>Jy
 |c::r=>E9 (tC (c.v G)) (tCls G r)
theorem Pi:∀(cs:List Ty) (a:St) (H:Hp) (Q:bF->Hp->Prop),Q (Q4 G cs) H->tCls G cs a H Q
 |[],_,_,_,h=>h
 |c::r,a,H,Q,h=>Pi r a H (λd b=>Q (c.v G::d) b) h
def Tu{e:Expr}{cs:List Ty}{t:Ty->Option Bool}{f:FE}(h:PE X e (ε (λy H Q=>∃d x b tp,y=[x,.ref tp]/\H tp=Z (.a7 (Q4 G cs))/\cm G H d x/\t (tyD d)=Z b/\Q (.X b) H) (E9 (tF G f) (E9 (tTup (tCls G cs)) Jy))))(w:autoParam (cs.length<=1000) zA1._auto_1):PE X e (tF G (c1 (wX t) f)):=PE.b? h λB H Q u=>by
 obtain⟨F,z,m,d,l,R,e,k⟩:=u;obtain⟨x,q,a⟩:=Fj e;unfold wX at a;cases i:t (tyD x)with
 |none=>rw[i]at a;cases a
 |some b=>
  rw[i]at a;cases a;refine#v[F,z,m,x,l,R,q,λv A o s c r=>Pi cs _ _ _ #v[?_,λp j=>?_]]
  .unfold Q4;rw[ae];exact y9 w
  .exact#v[x,v,b,p,U,vI,cm.mono (c.sub.t (vV j _)) _ _ r,i,k _ _ _ (s.t (vV (c.er j) _)) (c.wh j _) (yw b)]
end
abbrev one(j:Nat)(led pl:Bool):bS:=#v[7,#[j],#[],0,led,0,pl]
section
variable{prog:aL}{w:aE}{A:aR}{E:ab->af->Prop}{s:af}
abbrev TK(prog:aL)(w:aE):=IsTupleKey (v5 prog w)
def cls_val(n:Nat)(h:mR v=γ):jc n v=pure δ:=by
 cases v with
 |ref a=>simp[mR]at h
 |_=>first|rfl|simp[jc]|(unfold jc;rfl)
def Pj(e:TK prog w s.heap j a)(h:Q δ s):ao (model prog w) A (jc 8 (.ref a)) Q E s:=by
 have hT:=e.typeIs;obtain⟨o,items,n,i,_,hd,f⟩:=e;unfold jc;refine ai (iB hT ?_);show ao _ _ (pure γ>>=_) _ _ s;refine ai (ar ?_);simp only[Bool.not_true,gp,if_false];refine ai (mS i hd ?_);refine ai ?_;show ao _ _ (forIn items _ _) _ _ s;rw[<-pQ];refine j4 _ (λet r d=>r.1=O/\d=s/\∀v∈et,mR v=γ) _ ?_ ?_ _ _ #v[U,U,f.byValue]
 .rintro v et r d ⟨b,rfl,hall⟩;rw[cls_val _ (hall v ba)];refine ai (ar ?_);simp only[gp,if_false];exact ar #v[U,U,λu c=>hall u (a9 _ c)]
 .rintro⟨l,m⟩ d ⟨b,rfl,_⟩;simp only at b;subst b;exact ar h
end
section
variable{prog:aL}{w:aE}{A:aR}{E:ab->af->Prop}{s:af}
def Ob{a:Heap}(b:a.get? S=Z o)(hd:o.data=.set es ep t):(a.update S (ky es' t')).get? S=Z { o with data:=.set es' (ep+1) t' }:=by have:=gm (ky es' t') b (by rw[putSet_of es' t' hd];rfl);rw[putSet_of es' t' hd]at this;exact this
end
section
variable{prog:aL}{w:aE}{A:aR}{R:gX->af->Prop}{I:Addr}{fp wr:List Addr}{GG:Array gV->Array gV->Prop}{PP:Nat->ab->Prop}{SS:Nat->af->Prop}
def TK.fh{c:Heap}(t:TK prog w h f a)(e:∀o,h.get? a=Z o->c.get? a=Z o):TK prog w c f a:=by obtain⟨o,b,n,d,m⟩:=t;exact#v[o,b,n,e o d,m]
def Set2(h:Heap)(S:Addr)(n:Nat):Prop:=∃o a b t,h.get? S=Z o/\o.ExactSet/\o.data=.set a b t/\a.size<scanBound/\t.fits a.size=γ/\a.size=n
end
set_option r "vl set;m5 frozenset" in def ϑ0:isSubtype (.type "tuple") (.type "ϑ1")=pure δ:=by rw[kc];kernel_rfl
section
variable{prog:aL}{w:aE}{A:aR}{E:ab->af->Prop}{s:af}{Q:ab->af->Prop}
abbrev AM(led:Bool):Obj:={ cls:=.type "set", dict:=O,data:=.set #[] 0 (.fresh 0 0 led) }
abbrev inK(a:List d?):d?->Bool:=λj=>(Bd a).any (λz=>decide (z=j))
structure SrcK(prog:aL)(w:aE)(h:Heap)(a:Addr)(items:Array ab)(ks:List d?):Prop where
 len:ks.length=items.size
 key:∀i v (hi:i<ks.length),items[i]?=Z v->(v5 prog w).is ks[i] v=γ/\v.scannable=γ
 bnd:items.size+1<scanBound
def Xa(s:af)(PS:Heap->Prop)(E:ab->af->Prop):gX->af->Prop:=
 wants (λr s2=>r=.none/\∃h2 a,s2={ s with heap:=h2,toks:=a }/\PS h2/\∀b o,b<s.heap.objs.size->s.heap.get? b=Z o->h2.get? b=Z o) E
def MB(K:SrcK prog w s.heap a items ks)(hlt:a<s.heap.objs.size)
  (W:Walks prog w A.in1 (s.heap.objs.size+1) [s.heap.objs.size+1,a] [s.heap.objs.size+1] items.size (λi v=>items[i]?=Z v) SS) (st:SS 0 ((s.heap.push (AM led)).push itO))
  (hR:∀h2 c,h2.SetOf (v5 prog w) s.heap.objs.size (inK ks) (Bd ks).length->(∀b o,b<s.heap.objs.size->s.heap.get? b=Z o->h2.get? b=Z o)->R (.ok (.ret .none)) { s with heap:=h2,toks:=c }) (tk:Nat):
  cG (model prog w) A (.builtin "set.update.loop" #v[[.ref s.heap.objs.size,.ref (s.heap.objs.size+1)],[]]) R { s with heap:=(s.heap.push (AM led)).push itO,toks:=tk }:=by
 have notin:s.heap.objs.size∉[s.heap.objs.size+1,a]:=by
  intro z;rcases aM.1 z with z|z
  .exact aq z (bj (dJ _))
  .exact aq (bu.1 z) (gO hlt)
 have f:((s.heap.push (AM led)).push itO).get? s.heap.objs.size=Z (AM led):=aT _ (bA _ U);refine Tq W.toS s.heap.objs.size notin ks K.len (λi v hi p=>K.key i v hi p) K.bnd (items.size - 0) 0 _ (by omega) (bR _) st ?_ λs2 mv d=>?_
 .exact#v[_,#[],0,_,f,#v[U,U,U],U,λe m=>by simp at m,λk=>by simp[Bd],by unfold scanBound;decide,by rfl,U]
 .obtain⟨h2,g2,d2,c,q⟩:=s2;have j:g2=s.gens:=mv.gens;have h:d2=s.drawn:=mv.drawn;have l:q=s.os:=mv.os;subst j h l;refine hR h2 c d λb o hb e=>mv.heap b o (λz=>?_) (aT _ (aT _ e));rcases aM.1 z with z|z
  .exact aq z (bj hb)
  .exact aq (bu.1 z) (bj (fi hb))
theorem Oc(a:ab)(h:Q₁ (.ref s.heap.objs.size) { s with heap:=s.heap.push (AM (!w.params.followText "set-order")) }):
  cG (model prog w) A (.call (.builtin "set.__new__") #v[[.type "set", a],[]]) (wants Q₁ E) s:=by
 refine qJ ?_;show ao _ A.in1 (do checkBuiltinCall "set.__new__" #v[[.type "set", a],[]];again (.builtin "set.__new__" #v[[.type "set", a],[]])) _ _ s;refine ai (wpAny_of_eq (F.newCall_set_1 a) (ar #v[gL qK _,d7 F.entry_set_new ?_]));rw[eQ qK _];unfold fG.«set.__new__» tV;have hsub:=sub_set_self;obtain⟨b,g,d,tk,os⟩:=s;dsimp only
 wp_walk
 refine mF (ar ?_);dsimp only;simp only[newObj];refine ai (wpAny_alloc (ar ?_));exact ar h
theorem Fu{PS:Heap->Prop}(t:s.heap.get? a=Z o)(z:o.cls=.type T)
  (N:isSubtype (.type T) (.type "set")=pure δ) (P:isSubtype (.type T) (.type "frozenset")=pure δ) (S:(Value.type T==Value.type "dict")=δ)
  (itr:∀(A:aR) (Q:ab->af->Prop) (E:ab->af->Prop) (d:af),d.heap.get? a=Z o->Q (.ref d.heap.objs.size) { d with heap:=d.heap.push itO }->ao (model prog w) A (pyIter (.ref a)) Q E d)
  (fil:∀tk (R:gX->af->Prop),(∀h2 i,PS h2->(∀b o,b<s.heap.objs.size->s.heap.get? b=Z o->h2.get? b=Z o)->R (.ok (.ret .none)) { s with heap:=h2,toks:=i })->
   cG (model prog w) A.in1.in1 (.builtin "set.update.loop" #v[[.ref s.heap.objs.size,.ref (s.heap.objs.size+1)],[]]) R { s with heap:=(s.heap.push (AM (!w.params.followText "set-order"))).push itO,toks:=tk })
  (h:∀h2 i,PS h2->(∀b o,b<s.heap.objs.size->s.heap.get? b=Z o->h2.get? b=Z o)->Q (.ref s.heap.objs.size) { s with heap:=h2,toks:=i }):
  ao (model prog w) A (call (.type "set") [.ref a]) Q E s:=by
 have hlt:a<s.heap.objs.size:=bb t;obtain⟨c,M,hmro⟩:=fV.mro;have made:=fV.made;have subs:=fV.sub;refine kq (qJ ?_);show ao _ _ (callAny (.type "set") _) _ _ _;refine ar #v[Code.quiet_builtin _ (by decide +kernel),d7 F.entry_type_call ?_];rw[Around.under_plain (weight_type_call_type "set" [.ref a] []) U];have H:=fV.notType;have I:=fV.canCreate;have J:=F.typeCall_set_1 (.ref a)
 repeat (any_goals (first|assumption|wp_step))
 let led:Bool:=!w.params.followText "set-order";refine iA (Oc (.ref a) (E:=E) (Q₁:=λv d=>v=.ref s.heap.objs.size/\d={ s with heap:=s.heap.push (AM led) }) #v[U,U]) λr d hr=>?_;cases r with
 |error e=>exact hr
 |ok fl=>
  cases fl with
  |ret v=>
   obtain⟨rfl,rfl⟩:=hr;have u:(s.heap.push (AM led)).get? s.heap.objs.size=Z (AM led):=bA _ U;have p:mZ { s with heap:=s.heap.push (AM led) } (.ref s.heap.objs.size) "set" := #v[_,u,U];have C:=fV.init.lookup;have G:=fV.init.bind (.ref s.heap.objs.size)
   repeat (any_goals (first|assumption|wp_step))
   refine iA (pd (R:=Xa s PS E) fV.init.plain F.entry_set_init (check_set_init_1 p ?_)) λB s2 f=>?_
   .obtain⟨oc,od,oda,osl⟩:=o;cases z;have x:(s.heap.push (AM led)).get? a=Z { cls:=.type T,dict:=od,data:=oda,slots:=osl }:=aT _ t;unfold fG.«set.__init__» noKeywords tS;generalize gP:pyIter=PP
    wp_walk
    subst gP;refine itr _ _ _ _ x ?_;refine ai (qZ ?_);have y:(s.heap.push (AM led)).objs.size=s.heap.objs.size+1:=c9 _ _;show cG _ _ (.builtin "set.update.loop" #v[[.ref s.heap.objs.size,.ref (s.heap.push (AM led)).objs.size],[]]) _ _;rw[y];refine fil _ _ λh2 i j m=>?_;show ao _ _ _ _ _ _;refine ar ?_;show ao _ _ (ret Value.none) _ _ _;exact ar #v[U,h2,i,U,j,m]
   .cases B with
    |error e=>exact f
    |ok l=>
     cases l with
     |ret r=>
      obtain⟨rfl,h2,i,rfl,j,m⟩:=f
      repeat (any_goals (first|assumption|wp_step))
      exact h _ _ j m
     |_=>exact f.elim
  |_=>exact hr.elim
end
section
variable{X:Cx}{G:Bg}{H:Hp}{pins:cO}{σ:St}{s:af}
def Tv(h:(v5 P w).is k v=γ):v.scannable=γ:=by rcases xb h with ⟨i,t,_,rfl⟩|⟨x,t,_,rfl⟩<;>rfl
def Tw{b:List d?}(r:c6 (b.map kV) c)(o:b.length+1<scanBound):SrcK X.prog X.w s.heap a c.toArray b:=by
 have l:=by have:=r.length;rw[ae]at this;exact this
 refine#v[by rw[bp];exact l,λi v j f=>?_,by rw[bp];omega];have e:(b.map kV)[i]?=Z (kV b[i]):=by rw[bg,aO j];rfl
 obtain⟨u,d,m⟩:=r.get e;have h:=by rw[jM]at f;rw[f]at d;exact cW d
 subst h;have:=Fi (P:=X.prog) (w:=X.w) m;exact#v[this,Tv this]
def aen{c:List d?}(I:b0 X pins σ H s)(h:e? X.K H a (c.map kV)):TK X.prog X.w s.heap c a:=by
 obtain⟨b,r,p,_⟩:=I.tuple h;obtain⟨o,i,f,n,hd⟩:=p;refine#v[o,_,n,i,f,hd,?_];have n9:∀(c:List d?) (b:List ab),c6 (c.map kV) b->PySem.ItemsAre (v5 X.prog X.w) c b:=λc=>by
  induction c with
  |nil=>intro b r;cases r;exact .nil
  |cons k c j=>intro b r;cases r with|cons d e=>exact .cons (Fi d) (j _ e)
 exact n9 c b r
def SrcO(K:aw)(H:Hp)(a:Addr)(n:Nat):Prop:=∃b,(e8 K H a (b.map kV)\/e? K H a (b.map kV))/\b.length+1<scanBound/\n=(Bd b).length
def SetV(X:Cx)(S:aw->Hp->Addr->Nat->Prop):Prop:=∀{pins:cO} {σ:St} {H:Hp} {s:af} {A:aR} {E:ab->af->Prop} {Q:ab->af->Prop} {a:Addr} {n:Nat},b0 X pins σ H s->A.handled=O->A.units+8<cLine->S X.K H a n->
 (∀h2 c,Set2 h2 s.heap.objs.size n->(∀b o,b<s.heap.objs.size->s.heap.get? b=Z o->h2.get? b=Z o)->Q (.ref s.heap.objs.size) { s with heap:=h2,toks:=c })->ao (model X.prog X.w) A (call (.type "set") [.ref a]) Q E s
def aeo:SetV X (SrcO):=by
 intro pins σ H s A E Q a n I J T i h;have u:A.in1.in1.in1.handled=O:=by simp[J]
 have q:∀{f:Heap} {j:List d?},f.SetOf (v5 X.prog X.w) s.heap.objs.size (inK j) (Bd j).length->Set2 f s.heap.objs.size (Bd j).length:=λS=>by obtain⟨o,C,B,t,b,hex,hd,_,_,N,F,M⟩:=S;exact#v[o,C,B,t,b,hex,hd,N,F,M]
 have y:∀{o:Obj} {led:Bool},o.isFreed=δ->((s.heap.push (AM led)).push o).get? (s.heap.objs.size+1)=Z o:=λ{o led} z=>by rw[show s.heap.objs.size+1=(s.heap.push (AM led)).objs.size from(c9 _ _).symm];exact bA _ z
 obtain⟨j,i|i,x,rfl⟩:=i
 .obtain⟨d,r,p,_⟩:=I.list i;obtain⟨o,b,c,n,hd⟩:=p.isList;have hne:=bj (fi (bb b));refine Fu b c mT lI (by decide)
   (λA Q E P e k=>ig #v[o,e,c,n,hd] k) (λm R hR=>MB (Tw r x) (bb b) (js u _ a hne d.toArray) #v[#v[_,y U,U,U],#v[o,aT _ (aT _ b),c,n,hd]] (λf l S=>hR f l (q S)) m) h
 .obtain⟨d,r,p,_⟩:=I.tuple i;obtain⟨o,b,c,n,hd⟩:=p;have hne:=bj (fi (bb b));refine Fu b c vl m5 (by decide)
   (λA Q E P e k=>pK #v[o,e,c,n,hd] k) (λm R hR=>MB (Tw r x) (bb b) (Walks.tuple u _ a hne d.toArray) #v[#v[_,y U,U,U],#v[o,aT _ (aT _ b),c,n,hd]] (λf l S=>hR f l (q S)) m) h
def Pk(S:aw->Hp->Addr->Nat->Prop)(K:aw)(c:TE):TE:=λσ H Q=>c σ H λx b=>∃a n,x=.ref a/\S K b a n/\Q (.int n) b
def Q5{p2 p3:Pos}(hV:SetV X S)(N:X.A.units+64<cLine)(m:X.mi=γ)(g1:Gl X "len")(C:X.mg "len" = O)(g2:Gl X "set")(E:X.mg "set" = O)(p:PE X e M)
  (d:autoParam (aF [Expr.Call (.Name "set" p2) [e] [] p3] X.a4=[(δ,eval (.Call (.Name "set" p2) [e] [] p3) X.a4)]) zA0._auto_1) (f:autoParam (aF [e] X.a4=[(δ,eval e X.a4)]) zA0._auto_1):PE X (.Call (.Name "len" P) [.Call (.Name "set" p2) [e] [] p3] [] R) (Pk S X.K M):=by
 intro pins s σ H Q I h;refine d4 (Cn I g1 C q8 ?_ (by decide) (by decide));refine callWith_builtin1 ?_ d U;rw[d];refine eX ?_;refine d4 (Cn I g2 E sj ?_ (by decide) (by decide));refine callWith_type1 (e3 (yx p AJ f p3 pins s σ H (λvs H1=>match vs with
  |[x]=>∃a n,x=.ref a/\S X.K H1 a n/\Q (.int n) H1
  |_=>False) I h) λus J #v[vs,H1,c,r1,q1]=>?_) f U
 match vs,r1,q1 with
 |[x],r1,q1=>
 obtain⟨a,n,l,w,q⟩:=q1;subst l;obtain⟨u,rfl,F⟩:=j? r1;cases F;refine hV c (c.ok.hd m) (by omega) w λh2 z j B=>?_;refine gq ?_;obtain⟨o,es,ep,t,r,hex,hd,y,hf,hn⟩:=j;have i:b0 X pins σ H1 { J with heap:=h2,toks:=z }:=c.fh λb o e=>B b o (bb e) e;refine call_len_set r hex hd hf (by unfold scanBound at y;omega) #v[.int n,H1,i.ri _,#v[_,by rw[hn]],q]
def G7:br->Option (List d?)
 |[]=>Z []
 |d::a=>match B4 d,G7 a with
  |some k,Z b=>Z (k::b)
  |_,_=>O
theorem J6:∀{a:br} {f:bF} {c:List d?},a6 G H a f->G7 a=Z c->f=c.map kV
 |[],f,c,r,e=>by cases e;unfold a6 at r;exact r
 |d::a,f,c,r,e=>by
  unfold G7 at e;cases b:B4 d with
  |none=>rw[b]at e;cases e
  |some k=>
   cases h:G7 a with
   |none=>rw[b,h]at e;cases e
   |some l=>rw[b,h]at e;cases e;obtain⟨v,m,rfl,i,j⟩:=r;rw[Cv i b,J6 j h];rfl
def yz(b:br):Option D:=match G7 b with
 |some a=>if a.length<=1000 then Z (.int (Bd a).length)else O
 |none=>O
def Fv(g:br->Option D):D->Option D
 |.a3 a=>match yz a with
  |some r=>Z r
  |none=>g a
 |.a7 a=>yz a
 |.nq a=>yz a
 |_=>O
def Xb(h:yz a=Z r):Fv g (.a3 a)=Z r:=by show (match yz a with|some r=>Z r|none=>g a)=Z r;rw[h]
set_option h true
def Od(hK:X.K=G.K)(hO:∀{H a n},SrcO X.K H a n->S X.K H a n)
  (E:∀{c d m b a i},g c=Z d->e8 X.K b a i->a6 G m c i->vX m b->∃n:Nat,S X.K b a n/\d=.int n)
  (h:PE X e (Pk S X.K (tF G f))):PE X e (tF G (c1 (Fv g) f)):=PE.b? h λσ H Q I=>by
 obtain⟨F,M,z,d,u,R,e,k⟩:=I;obtain⟨x,B,l⟩:=Fj e;have key:∀{c:br} {i:bF} {a:Addr} {m b:Hp},yz c=Z d->a6 G m c i->vX z m->bt G F σ u m b->(e8 X.K b a i\/e? X.K b a i)->
   ∃A n,V.ref a=.ref A/\S X.K b A n/\Q (.int n) b:=λ{c i a m b} o rs s j t=>by
  unfold yz at o;cases y:G7 c with
  |none=>rw[y]at o;cases o
  |some J=>
   rw[y]at o;simp only at o;split at o
   .rename_i N;cases o;rw[J6 rs y]at t;exact#v[a,_,U,hO #v[J,t,by unfold scanBound;omega,U],k _ _ _ s j (yf _)]
   .cases o
 refine#v[F,M,z,x,u,R,B,λv m b s j r=>?_];cases x with
 |a3 c=>
  obtain⟨a,i,rfl,p,q⟩:=r;have t:e8 X.K b a i:=e8.of (j.sub _ _ p);replace l:(match yz c with|some r=>Z r|none=>g c)=Z d:=l;cases w:yz c with
  |some r=>rw[w]at l;cases l;exact key w q s j (.inl t)
  |none=>rw[w]at l;obtain⟨n,C,rfl⟩:=E l t q j.sub;exact#v[a,n,U,C,k _ _ _ s j (yf _)]
 |a7 c=>obtain⟨a,i,rfl,p,q⟩:=r;rw[<-hK]at p;exact key l q s j (.inr (e?.mono j.sub p))
 |nq c=>obtain⟨a,i,rfl,p,q⟩:=r;rw[<-hK]at p;exact key l q s j (.inl (j.sub.seq p))
 |_=>cases l
end
set_option h false
def Pl(h:(v5 P w).is k v=γ):dd (kV k) v:=by
 rcases xb h with ⟨i,t,rfl,rfl⟩|⟨x,t,rfl,rfl⟩
 .exact#v[t,U]
 .exact#v[t,U]
def Itd(a:Addr)(o:Obj)(kvs:List (d?×V)):It:=
 #v[λi H=>i<kvs.length/\H a=Z (.mr o (.dK kvs)),λi H x b=>b=H/\∃k z,kvs[i]?=Z (k,z)/\x=kV k,λi H=>kvs.length<=i/\H a=Z (.mr o (.dK kvs))]
section
variable{X:Cx}{pins:cO}{σ:St}{H:Hp}{s:af}
def G8(I:b0 X pins σ H s)(e:H a=Z (.mr o (.dK kvs)))(hd:o.data=.dict i f):
  (a==dE)=δ/\s.heap.get? a=Z o/\∃b,KV kvs b/\s.heap.DictAt (v5 X.prog X.w) a b f:=by
 obtain⟨c,_,y,b,r,p,j,h,d,l,q3,m⟩:=(show en X.prog X.w H s.heap a (.mr o (.dK kvs)) from I.ew a _ e);rw[c]at d;cases d;rw[hd]at q3;cases q3;exact#v[y,c,b,r,o,i,c,l,hd,m]
def aaV{kvs:List (d?×V)}{a:List (d?×ab)}(r:KV kvs a){i:Nat}{k:d?}{x:ab}(e:a[i]?=Z (k,x)):∃z,kvs[i]?=Z (k,z):=by
 induction r generalizing i with
 |nil=>cases e
 |@cons p q l d h _ b=>
  cases i with
  |zero=>obtain⟨c,pv⟩:=p;cases e;exact#v[pv,by rw[show c=k from h.1];rfl]
  |succ i=>exact b e
end
def Q6{K:aw}(a it:Addr)(o:Obj)(kvs:List (d?×V)):P' P w K tg (Itd a o kvs) [it] it (λi h=>∃es ep,o.data=.dict es ep/\h.IsKeyIter it a i kvs.length ep) where
 mem:=by simp
 obj:=λi h st b hb=>by
  have e:=by simpa using hb
  subst e;obtain⟨es,ep,hd,ob,e,c,d⟩:=st;exact#v[ob,e,λv z=>by rw[d]at z;cases z]
 keep:=λi h h' st k=>by obtain⟨es,ep,hd,x⟩:=st;exact#v[es,ep,hd,x.at λo e=>k it (by simp) o e]
 item:=by
  intro X hP hw hK A i pins s σ H E I hf st hg;subst hP hw hK;obtain⟨hi,p⟩:=hg;obtain⟨es,ep,hd,m⟩:=st;obtain⟨j,q,G,t,u,y⟩:=hf it (by simp);obtain⟨_,_,vs,r,da⟩:=G8 I p hd;have l:=r.length;have hne:a≠it:=λz=>by subst z;rw[p]at j;cases j
  have W:=Walks.dictKeys (knd:=v5 X.prog X.w) (I.ok.hd A) it a hne vs ep;refine W.item i s _ _ (by omega) #v[by rw[<-l];exact m,da] λv h' tk M B R=>?_;obtain⟨k,x,N,J⟩:=M;obtain⟨z,Q⟩:=aaV r N;have C:b0 X pins σ H { s with heap:=h',toks:=tk }:=I.ix (λb o hb e=>R b o (by simpa using hb) e) j q t u y;obtain⟨f,_⟩:=B;rw[<-l]at f;obtain⟨ob,e,c,d⟩:=id f;exact#v[v,U,OR e c d (by decide) #v[kV k,H,C,Pl J,#v[U,k,z,Q,U],#v[es,ep,hd,f],λb hb=>(hf b hb).1]]
 done:=by intro X hP hw hK A i pins s σ H E I hf st hg;subst hP hw hK;obtain⟨hi,p⟩:=hg;obtain⟨es,ep,hd,m⟩:=st;obtain⟨j,q,G,t,u,y⟩:=hf it (by simp);obtain⟨_,_,vs,r,da⟩:=G8 I p hd;have l:=r.length;exact wpAny_pyNext_dict_end (I.ok.hd A) (by rw[<-l];exact m) da (gj (by rw[<-l];exact hi)) λh' F=>#v[U,I.ix (λb o hb e=>F b o hb e) j q t u y]
 self:=λ_ _ _ _ _ st h=>by obtain⟨es,ep,hd,m⟩:=st;exact wpAny_pyIter_keyiter m h
section
variable{X:Cx}{G:Bg}{tg:Expr}
def iDic(c:TE):TI:=λd H R=>c d H λx b=>∃a o kvs,x=.ref a/\b a=Z (.mr o (.dK kvs))/\R (Itd a o kvs) b
def Xc(f:PE X l M):PI X tg l (iDic M):=by
 intro c s N H R I h;refine e3 (f c s N H _ I h) λv i zz=>?_;obtain⟨x,j,d,J,F⟩:=zz;obtain⟨a,o,kvs,e,E,q⟩:=F;subst e;cases J;obtain⟨u,_,y,Q,r,P,t,B,m,z,p,A⟩:=(show en X.prog X.w j i.heap a (.mr o (.dK kvs)) from d.ew a _ E);rw[u]at m;cases m;have f:=r.length;refine wpAny_pyIter_dict y #v[o,t,u,z,p,A] ?_;refine#v[i.heap.objs.size,[i.heap.objs.size],_,_,j,U,d.fh λb o e=>aT _ e,Q6 a _ o kvs,#v[t,B,p,#v[_,bA _ U,U,by rw[f];rfl]],λb C=>?_,q];have e:=by simpa using C
 subst e;exact d.Rn (aI _) (d.ew.fresh (aI _))
def keyV:d?->D
 |.inl i=>.int i
 |.inr x=>.str x
def Xd(k:d?):cm G H (keyV k) (kV k):=by
 cases k with
 |inl i=>exact yf i
 |inr x=>exact Aj x
def iD(f:FE):FA:=λd=>match f d with
 |some (.i0 b c,a)=>if b.length=c.length then Z (b.map keyV,a)else O
 |_=>O
set_option h true
def Tx(h:PI X tg e (iDic (tF G f))):PI X tg e (L' G (iD f)):=PI.b? h λσ H R P=>by
 obtain⟨F,Y,B,ds,ρ',R,e,k⟩:=P;unfold iD at e;split at e
 .rename_i p J ρ1 M;split at e
  .rename_i x;cases e;refine#v[F,Y,B,_,_,R,M,λv H1 C s w r=>?_];obtain⟨a,o,W,rfl,q,T,r3⟩:=r;have A:(p.zip W).length=p.length:=by rw[il,<- T,gQ]
   refine#v[a,o,_,U,w.sub _ _ q,k _ _ _ s w λi E I t u=>#v[λd c=>?_,λS=>?_]]
   .rw[bg]at c;cases m:p[i]? with
    |none=>rw[m]at c;cases c
    |some j=>
     rw[m]at c;cases c;have Q:=(bY.1 m).1;refine#v[#v[by rw[A];exact Q,u _ _ (t _ _ q)],λz H3 y=>?_];obtain⟨N,k',z',l,rfl⟩:=y;subst N;have:=by rw[List.getElem?_zip_eq_some]at l;have:=l.1;rw[m]at this;exact(cW this).symm
     subst this;exact#v[E,vX.refl _,u,vX.refl _,λb o e=>.inl e,Xd _]
   .refine#v[by rw[A,S,ae];exact aI _,u _ _ (t _ _ q)]
  .cases e
 .cases e
end
set_option h false
mutual
def y'(N c:Nat):D->Bool
 |.U=>γ
 |.X _=>γ
 |.int _=>γ
 |.str _=>γ
 |.a7 a=>Am N c a
 |.a3 a=>Am N c a
 |.nq a=>Am N c a
 |.obj k _ a=>decide (k<N)&&decide (k≠c)&&Am N c a
 |.i0 _ a=>Am N c a
 |.Z' _ a=>Am N c a
def Am(N c:Nat):br->Bool
 |[]=>γ
 |d::a=>y' N c d&&Am N c a
end
def without(H:Hp)(a:Addr):Hp:=λb=>if b=a then O else H b
def IJ{H:Hp}{a b:Addr}(h:b≠a):without H a b=H b:=by unfold without;rw[ak h]
def Fw{H:Hp}{a b:Addr}{o:HO}(h:without H a b=Z o):b≠a/\H b=Z o:=by
 unfold without at h;by_cases c:b=a
 .rw[aj c]at h;cases h
 .rw[ak c]at h;exact#v[c,h]
def yE{H:Hp}{a b:Addr}{u v:HO}(e:H a=Z u)(c:H b=Z v)(d:u≠v):without H a b=Z v:=by rw[IJ (λz=>by subst z;rw[e]at c;exact d (cW c))];exact c
section
variable{G:Bg}{H:Hp}{a dx:Addr}{fs:List (Str×V)}{N c:Nat}
set_option r "G9 ?;MC 8" in def ϑ0(b:H a=Z (.ke (G.ca c) dx fs)){p:Addr}{d:bF}(h:eϑ1 G.K H p d):eϑ1 G.K (without H a) p d:=by
 rcases h with (h|⟨o,h⟩)|h
 .exact .inl (.inl (yE b h (λz=>nomatch z)))
 .exact .inl (.inr #v[o,yE b h (λz=>nomatch z)])
 .exact .inr h
mutual
theorem He(inj:∀j k,j<N->k<N->G.ca j=G.ca k->j=k)(t:c<N)(i:H a=Z (.ke (G.ca c) dx fs)):∀(d:D) (v:V),y' N c d=γ->cm G H d v->cm G (without H a) d v
 |.U,v,_,h=>by unfold cm at h ⊢;exact h
 |.X _,v,_,h=>by unfold cm at h ⊢;exact h
 |.int _,v,_,h=>by unfold cm at h ⊢;exact h
 |.str _,v,_,h=>by unfold cm at h ⊢;exact h
 |.a7 l,v,n,h=>by obtain⟨p,f,e,m,r⟩:=h;exact#v[p,f,e,G9 i m,yg inj t i l f n r]
 |.a3 l,v,n,h=>by obtain⟨p,f,e,m,r⟩:=h;exact#v[p,f,e,yE i m (λz=>nomatch z),yg inj t i l f n r]
 |.nq l,v,n,h=>by obtain⟨p,f,e,m,r⟩:=h;exact#v[p,f,e,MC i m,yg inj t i l f n r]
 |.obj k J l,v,n,h=>by unfold y' at n;simp only[aW,bK]at n;obtain⟨p,w,f,e,m,r,u⟩:=h;refine#v[p,w,f,e,yE i m (λz=>?_),r,yg inj t i l f n.2 u];injection z with I;exact n.1.2 (inj k c n.1.1 t I.symm)
 |.i0 E l,v,n,h=>by obtain⟨p,o,f,e,m,r,u⟩:=h;exact#v[p,o,f,e,yE i m (λz=>nomatch z),r,yg inj t i l f n u]
 |.Z' E l,v,n,h=>by obtain⟨b,f,rfl,⟨o,F,m,r,u,x,y,A⟩,B⟩:=h;exact#v[b,f,U,#v[o,F,yE i m (λz=>nomatch z),r,u,x,λq C=>G9 i (y q C),A],yg inj t i l f n B]
theorem yg(inj:∀j k,j<N->k<N->G.ca j=G.ca k->j=k)(l:c<N)(i:H a=Z (.ke (G.ca c) dx fs)):∀(b:br) (f:bF),Am N c b=γ->a6 G H b f->a6 G (without H a) b f
 |[],f,_,h=>by unfold a6 at h ⊢;exact h
 |d::b,f,n,h=>by unfold Am at n;simp only[aW]at n;obtain⟨v,r,e,m,o⟩:=h;exact#v[v,r,e,He inj l i d v n.1 m,yg inj l i b r n.2 o]
end
end
def EL:Sl->Sl
 |.I d=>.I d
 |_=>.un
def Et(N:Nat)(f:FE):FE:=λa=>match a with
 |.ob c e b::r=>match f (.I (.obj c e b)::r.map EL)with
  |some (d,_)=>if (decide (c<N)&&y' N c d)=γ then Z (d,a)else O
  |none=>O
 |_=>O
section
variable{X:Cx}{G:Bg}
def Oe{s:Sl}:(EL s).f5=δ:=by cases s<;>rfl
set_option h true
def Xe{e:Expr}{f:FE}{N:Nat}(inj:∀j k,j<N->k<N->G.ca j=G.ca k->j=k)(h:PE X e (tF G f)):PE X e (tF G (Et N f)):=PE.b? h λσ H Q C=>by
 obtain⟨F,ρ,H0,d,ρ',R,e,k⟩:=C;unfold Et at e;split at e
 .rename_i c ns ds r;rcases wm (f:=f) (ρ:=.I (.obj c ns ds)::r.map EL)with u|⟨x,w,u⟩<;>simp only[u]at e
  .cases e
  split at e
  .rename_i hn;cases e;simp only[aW,bK]at hn;obtain⟨a,dx,xs,h1,h2,h3,h4,h5,h6⟩:=R.sl 0 _ U;have RL:bt G #v[ef H0 a (.ke (G.ca c) dx (ns.zip xs)),H,[]] σ (.I (.obj c ns ds)::r.map EL) (ef H0 a (.ke (G.ca c) dx (ns.zip xs))) H:={
    sub:=λb o q=>by
     by_cases hb:b=a
     .subst hb;rw[vI]at q;cases q;exact h2
     .rw[vM hb]at q;exact R.sub _ _ q
    g0:=vX.refl _
    keep:=λb o q _=>q
    fr:=λb o q=>.inl q
    am:=λb q=>by cases q
    len:=by have:=R.len;simpa using this
    sl:=λi s q=>by
     cases i with
     |zero=>cases q;exact#v[.ref a,h1,by unfold cm;exact#v[a,dx,xs,U,vI,h5,a6.mono (vV h3 _) _ _ h6]]
     |succ i=>
      have l:(r.map EL)[i]?=Z s:=q;rw[bg]at l;cases q1:r[i]? with
      |none=>rw[q1]at l;cases l
      |some t=>
       rw[q1]at l;cases l;have ok:=R.sl (i+1) t q1;cases t with
       |I d=>obtain⟨v,g1,g2⟩:=ok;exact#v[v,g1,cm.mono (vV h3 _) _ _ g2]
       |_=>trivial
    ap:=λi j s t b _ y _ so=>by
     cases i with
     |zero=>cases y;cases so
     |succ i=>
      have l:(r.map EL)[i]?=Z s:=y;rw[bg]at l;cases q1:r[i]? with
      |none=>rw[q1]at l;cases l
      |some t=>rw[q1]at l;cases l;rw[Oe]at so;cases so }
   refine#v[_,_,_,d,w,RL,u,λv H1 m s p E=>?_];have ha:=s _ _ vI;have A:vX H0 (without H1 a):=λb o q=>by
    have hb:b≠a:=λz=>by subst z;rw[h3]at q;cases q
    rw[IJ hb];exact s b o (by rw[vM hb];exact q)
   refine k v (without H1 a) m A ?_ (He inj hn.1 ha d v hn.2 E);refine R.fx (λb o q=>p.keep b o q (by simp)) A (λb o q=>p.sub _ _ (Fw q).2) λb o q=>?_;obtain⟨hb,q⟩:=Fw q;rcases p.fr b o q with z|z
   .have B:ef H0 a (.ke (G.ca c) dx (ns.zip xs)) b=Z o:=z;rw[vM hb]at B;exact .inl B
   .exact .inr z
  .cases e
 .cases e
end
set_option h false
section
variable{X:Cx}{pins:cO}{σ:St}{H:Hp}{s:af}{a:Addr}{A:aR}{E:ab->af->Prop}
theorem aaX(I:b0 X pins σ H s)(e:H a=Z (.dK kvs))(J:dd (kV k) u)(M:dd z r)(N:kvs.length<aJ)
  (l:∀v w f,zk kvs k=Z v->b0 X pins σ H f->dd v w->Q w f) (m:∀f,zk kvs k=O->b0 X pins σ (ef H a (.dK (gw kvs k z))) f->Q r f):
  ao (model X.prog X.w) A (call (.builtin "dict.setdefault") [.ref a,u,r]) Q E s:=by
 obtain⟨y,hd,i,rel,h⟩:=So I.ew e;have G:i.length<=aJ:=by rw[<-rel.length];exact y
 have t:(gw kvs k z).length<=aJ:=by have:=Bf kvs k z;omega
 have b:=rel.val k;refine iC oY h.typeIs F.entry_dict_setdefault (F.args_dict_setdefault_3 _ _ _) (kt_meets_setdefault (v5 X.prog X.w) a (Fi J) hd r) #v[i,h,G,λw C=>?_,λp j d B=>?_]
 .rw[C]at b;cases c:zk kvs k with
  |none=>rw[c]at b;exact b.elim
  |some v=>rw[c]at b;exact l v w _ c (I.ri _) b
 .rw[p]at b;cases c:zk kvs k with
  |some v=>rw[c]at b;exact b.elim
  |none=>have o:∃q,j.get? a=Z q:=let #v[q,_,_,x,_]:=d;#v[q,x];exact m _ c (HL I (by rw[e];exact True.intro) B o (NR t hd (rel.put k M) d))
def Tz(e ty tx:TE):TE:=λσ H Q=>e σ H λx c=>∃a,x=.ref a/\IsD c a/\ty σ c λy d=>tx σ d λz b=>∃kvs k,b a=Z (.dK kvs)/\y=kV k/\kvs.length<aJ/\
 (∀v,zk kvs k=Z v->Q v b)/\(zk kvs k=O->Q z (ef b a (.dK (gw kvs k z))))
theorem TB(T:PE X o td)(P:PE X e ty)(R:PE X f tx)(m:M2 X o "setdefault" apos e f cpos):PE X (.Call (.Attribute o "setdefault" apos) [e,f] [] cpos) (Tz td ty tx):=by
 intro pins s σ H Q I h;refine jU m.a5 m.few m.line jV oY F.type_dict_setdefault (e3 (T pins s σ H _ I h) λu s1 zz=>?_);obtain⟨x,p,j,rx,a,G,d,W⟩:=zz;subst G;obtain rfl:u=Value.ref a:=rx;obtain⟨t1,t2,_⟩:=KM j d;refine#v[t1,t2,?_];rw[m.Dk];refine ib U (ie (eX (e3 (P pins s1 σ p _ j W) λiv s2 #v[y,q,t,ry,Y]=>
  eX (e3 (R pins s2 σ q _ t Y) λfv s3 #v[z,r,B,l,kvs,k,C,J,S,M,N]=>gq ?_))))
 subst J;exact aaX B C ry l S (λv w s' c b i=>#v[v,r,b,i,M v c]) λs' c b=>#v[z,_,b,l,N c]
end
def Cw(a:List d?)(dss:List br)(k:d?)(d:D):List d?×List br:=
 if KY a k=γ then (a,fC (λc b=>if c=k then b++[d]else b) a dss)else (a++[k],dss++[[d]])
def Fy:KY c k=γ ↔ k∈c:=by unfold KY;rw[fN];exact#v[λ#v[x,a,b]=>bh b▸a,λh=>#v[k,h,aS U]]
def TC{b:List d?}{a:bF}:b.length=a.length->zk (b.zip a) k=Z v->∃j:Nat,b[j]?=Z k/\a[j]?=Z v:=by
 induction b generalizing a with
 |nil=>intro _ h;cases h
 |cons l b i=>
  intro c h;cases a with
  |nil=>cases c
  |cons v0 a=>
   unfold zk at h;rw[fK,fO]at h;by_cases e:l=k
   .subst e;simp only[decide_true]at h;cases h;exact#v[0,U,U]
   .simp only[e,decide_false]at h;obtain⟨j,d,f⟩:=i (by simpa using c) h;exact#v[j+1,d,f]
def TF{a:List d?}{b:bF}:a.length=b.length->zk (a.zip b) k=O->k∉a:=by
 induction a generalizing b with
 |nil=>intro _ _ h;cases h
 |cons i a f=>
  intro c h d;cases b with
  |nil=>cases c
  |cons v0 b=>
   unfold zk at h;rw[fK,fO]at h;by_cases e:i=k
   .subst e;simp only[decide_true]at h;cases h
   .simp only[e,decide_false]at h;rcases aM.1 d with z|z
    .exact e z.symm
    .exact f (by simpa using c) h z
structure H4(G:Bg)(F:Fr)(H0 H:Hp)(a:Addr)(ks:List d?)(dss:List br)(bs:List Addr):Prop where
 f?:H a=Z (.dK (ks.zip (bs.map V.ref)))
 n0:H0 a=O
 nB:F.B a=O
 len:ks.length=bs.length
 vu:bs.length=dss.length
 nd:bs.Nodup
 kd:ks.Nodup
 each:∀(i:Nat) (b:Addr) (ds:br),bs[i]?=Z b->dss[i]?=Z ds->∃xs,H b=Z (.a3 xs)/\H0 b=O/\F.B b=O/\a6 G H0 ds xs
section
variable{G:Bg}{F:Fr}{σ:St}{ρ:bc}{H0 H H0' H':Hp}{a:Addr}{ks:List d?}{dss:List br}{bs:List Addr}
def H4.fx(g:H4 G F H0 H a ks dss bs)(hs:vX H H')(h0:vX H0 H0')(hf:∀b o,H0' b=Z o->H0 b=Z o\/H b=O):H4 G F H0' H' a ks dss bs where
 f?:=hs _ _ g.f?
 n0:=by
  cases q:H0' a with
  |none=>rfl
  |some o=>
   rcases hf a o q with z|z
   .rw[g.n0]at z;cases z
   .rw[g.f?]at z;cases z
 nB:=g.nB
 len:=g.len
 vu:=g.vu
 nd:=g.nd
 kd:=g.kd
 each:=λi b ds c d=>by
  obtain⟨xs,q1,q2,q3,q4⟩:=g.each i b ds c d;refine#v[xs,hs _ _ q1,?_,q3,a6.mono h0 _ _ q4];cases q:H0' b with
  |none=>rfl
  |some o=>
   rcases hf b o q with z|z
   .rw[q2]at z;cases z
   .rw[q1]at z;cases z
def bt.still(R:bt G F σ ρ H0 H)(no:∀s∈ρ,s.f5=δ):bt G #v[H0,H,[]] σ ρ H0 H where
 sub:=R.sub
 g0:=vX.refl _
 keep:=λb o e f=>e
 fr:=λb o e=>.inl e
 am:=λa h=>by cases h
 len:=R.len
 sl:=λi s e=>by
  have ok:=R.sl i s e;have n:=no s (bV e);cases s with
  |un=>trivial
  |I d=>exact ok
  |_=>cases n
 ap:=λi j s t b f e f so=>by rw[no s (bV e)]at so;cases so
theorem bt.touch(R:bt G F σ ρ H0 H)(no:∀s∈ρ,s.f5=δ)(c:∀b o,H b=Z o->(H0 b≠O\/F.B b≠O)->H' b=Z o)(ha:∀b o,H b=Z o->∃f,H' b=Z f):bt G F σ ρ H0 H' where
 sub:=λb o e=>c b o (R.sub _ _ e) (.inl (by rw[e];exact λz=>nomatch z))
 g0:=R.g0
 keep:=λb o e n=>c b o (R.keep b o e n) (.inr (by rw[e];exact λz=>nomatch z))
 fr:=R.fr
 am:=λb hb=>by obtain⟨o,e⟩:=R.am b hb;exact ha b o e
 len:=R.len
 sl:=λi s e=>by
  have ok:=R.sl i s e;have n:=no s (bV e);cases s with
  |un=>trivial
  |I d=>exact ok
  |_=>cases n
 ap:=λi j s t b h e h so=>by rw[no s (bV e)]at so;cases so
set_option r "Y bs Addr;Z ks d?" in def aaϑ0{ϑ1:List ϑ2}(h:ϑ1.Nodup){i j:Nat}{b:ϑ2}(c:ϑ1[i]?=Z b)(d:ϑ1[j]?=Z b):i=j:=by obtain⟨l,e⟩:=bY.1 c;obtain⟨m,f⟩:=bY.1 d;exact(jZ h).1 (e.t f.symm)
def H4.more(g:H4 G F H0 H a ks dss bs){j:Nat}{k:d?}{b:Addr}{d:D}{v:V}{A:bF}(h:ks[j]?=Z k)(p:bs[j]?=Z b)(l:H b=Z (.a3 A))(J:cm G H0 d v):
  H4 G F H0 (ef H b (.a3 (A++[v]))) a (Cw ks dss k d).1 (Cw ks dss k d).2 bs:=by
 have B:=Fy.2 (bV h);unfold Cw;rw[aj B];have I:a≠b:=λz=>by subst z;rw[g.f?]at l;cases l
 refine#v[by rw[vM I];exact g.f?,g.n0,g.nB,g.len,?_,g.nd,g.kd,λi c N o e=>?_]
 .rw[lS,<- g.vu,<- g.len,gQ,g.len]
 .rw[List.getElem?_zipWith]at e;cases f:ks[i]? with
  |none=>rw[f]at e;cases e
  |some C=>
   cases t:dss[i]? with
   |none=>rw[f,t]at e;cases e
   |some m=>
    rw[f,t]at e;cases e;obtain⟨M,u,w,x,y⟩:=g.each i c m o t;by_cases q:C=k
    .subst q;have r:=aaZ g.kd f h;subst r;rw[o]at p;cases p;rw[u]at l;cases l;rw[aj U];exact#v[_,vI,w,x,xN y (wJ J wC)]
    .rw[ak q];have E:c≠b:=λz=>by subst z;have r:=aaY g.nd o p;subst r;rw[f]at h;cases h;exact q U
     exact#v[M,by rw[vM E];exact u,w,x,y]
theorem H4.fresh(g:H4 G F H0 H a ks dss bs)(t:k∉ks)(q:H p=O)(C:H0 p=O)(hB:F.B p=O)(M:cm G H0 d v):
  H4 G F H0 (ef (ef (ef H p (.a3 [])) a (.dK ((ks++[k]).zip ((bs++[p]).map V.ref)))) p (.a3 [v])) a (Cw ks dss k d).1 (Cw ks dss k d).2 (bs++[p]):=by
 have E:=λz=>t (Fy.1 z);unfold Cw;rw[ak E];have J:a≠p:=λz=>by subst z;rw[g.f?]at q;cases q
 have w:p∉bs:=λz=>by
  obtain⟨i,l,e⟩:=lX z;have b:bs[i]?=Z p:=by rw[aO l,e]
  obtain⟨j,f⟩:∃j,dss[i]?=Z j:=#v[dss[i]'(by rw[<-g.vu];exact l),aO _];obtain⟨A,h,_⟩:=g.each i p j b f;rw[q]at h;cases h
 refine#v[by rw[vM J,vI],g.n0,g.nB,by simp[g.len],by simp[g.vu],?_,?_,λi c j b f=>?_]
 .rw[cu];refine#v[g.nd,by simp,λx r y m=>?_];rw[bu]at m;subst m;exact λz=>w (z▸r)
 .rw[cu];refine#v[g.kd,by simp,λx r y m=>?_];rw[bu]at m;subst m;exact λz=>t (z▸r)
 .by_cases l:i<bs.length
  .rw[gh l]at b;rw[gh (by rw[<-g.vu];exact l)]at f;obtain⟨A,h,N,P,Q⟩:=g.each i c j b f;have u:c≠p:=λz=>w (z▸bV b);have I:c≠a:=λz=>by subst z;rw[g.f?]at h;cases h
   exact#v[A,by rw[vM u,vM I,vM u];exact h,N,P,Q]
  .have o:i=bs.length:=by have:=(bY.1 b).1;rw[aA,cU]at this;omega
   subst o;rw[gf (aI _),rP]at b;rw[g.vu,gf (aI _),rP]at f;cases b;cases f;exact#v[[v],vI,C,hB,wJ M wC]
def ME(G:Bg)(b:FE):TS:=Yi (tBM G.K "list" KJ (Tz (EE 1) (tF G b) (tLst Jy)) (E9 (EE 2) Jy))
def TH{P:B?}{l:V}(R:bt G F σ ρ H0 H)(no:∀s∈ρ,s.f5=δ)(h1:σ[1]?=Z (Z (.ref a)))(T:σ[2]?=Z (Z l))(rd:cm G H0 d l)
  (g:H4 G F H0 H a ks dss bs) (hk:fk ρ=Z (x,ρ)) (ek:B4 x=Z k) (l1:ks.length<1000) (l2:∀i∈dss,i.length<1000)
  (kont:∀C E J,vX H0 C->bt G F σ ρ C E->H4 G F C E a (Cw ks dss k d).1 (Cw ks dss k d).2 J->P.nx σ E):ME G fk P σ H:=by
 refine#v[.ref a,h1,a,U,.inl #v[_,.inl g.f?],_,_,_,x,ρ,bt.still R no,hk,λv A f s I r=>?_];have X:=λb o e=>I.keep b o e (by simp);have W:=I.fr;have R2:=R.fx X s I.sub W;have t:=g.fx X s W;have u:=cm.mono s _ _ rd;refine#v[bR _,λp h=>?_];have np:a≠p:=λz=>by subst z;rw[t.f?]at h;cases h
 have Q:bt G F σ ρ A (ef f p (.a3 [])):=R2.ff h _;have g3:H4 G F A (ef f p (.a3 [])) a ks dss bs:=t.fx (vV h _) (vX.refl _) λb o e=>.inl e;have lz:(ks.zip (bs.map V.ref)).length<aJ:=by rw[il,ae,<- g.len,gQ,bX];omega
 refine#v[_,k,g3.f?,Cv r ek,lz,λw B=>?_,λB=>?_]
 .obtain⟨j,e1,m⟩:=TC (by rw[ae];exact g.len) B;rw[bg]at m;cases q:bs[j]? with
  |none=>rw[q]at m;cases m
  |some b=>
   rw[q]at m;cases m;obtain⟨i,S⟩:∃i,dss[j]?=Z i:=#v[dss[j]'(by rw[<-g.vu];exact(bY.1 q).1),aO _];obtain⟨N,M,w2,w3,w4⟩:=g3.each j b i q S;have lx:N.length<aJ:=by rw[<-vH w4,bX];have:=l2 i (bV S);omega
   refine#v[.inl #v[U,N,e8.of M],l,T,b,N,l,U,U,M,lx,?_];refine kont A _ bs s (bt.touch Q no (λc o e z=>?_) λc o e=>?_) (g3.more e1 q M u)
   .have nc:c≠b:=λy=>by
     subst y;rcases z with z|z
     .exact z w2
     .exact z w3
    rw[vM nc];exact e
   .by_cases y:c=b
    .subst y;exact#v[_,vI]
    .rw[vM y];exact#v[o,e]
 .have nk:=TF (by rw[ae];exact g.len) B;have h0p:=R2.er h;have hBp:=R2.fg h;have ez:gw (ks.zip (bs.map V.ref)) k (.ref p)=(ks++[k]).zip ((bs++[p]).map V.ref):=by rw[Sn _ B,aX,mL (by rw[ae];exact g.len)];rfl
  rw[ez];have Y:ef (ef f p (.a3 [])) a (.dK ((ks++[k]).zip ((bs++[p]).map V.ref))) p=Z (.a3 []):=by rw[vM (λz=>np z.symm),vI]
  refine#v[.inl #v[U,[],e8.of Y],l,T,p,[],l,U,U,Y,by rw[bX];decide,?_];refine kont A _ (bs++[p]) s (bt.touch Q no (λc o e z=>?_) λc o e=>?_) (t.fresh nk h h0p hBp u)
  .have n1:c≠p:=λy=>by
    subst y;rcases z with z|z
    .exact z h0p
    .exact z hBp
   have n2:c≠a:=λy=>by
    subst y;rcases z with z|z
    .exact z t.n0
    .exact z t.nB
   rw[cD,vM n1,vM n2];exact e
  .by_cases y:c=p
   .subst y;exact#v[_,vI]
   .rw[vM y];by_cases y2:c=a
    .subst y2;exact#v[_,vI]
    .rw[vM y2];exact#v[o,e]
end
def DK(b:D->Option D):br->List d?->List br->Option (List d?×List br)
 |[],a,dss=>Z (a,dss)
 |d::r,a,dss=>match b d with
  |some x=>match B4 x with
   |some k=>if (decide (a.length<1000)&&dss.all λc=>decide (c.length<1000))=γ then DK b r (Cw a dss k d).1 (Cw a dss k d).2 else O
   |none=>O
  |none=>O
def Of(b:D->Option D):FS:=λc=>match c with
 |[.I (.a3 L),.un,.un]=>match DK b L [] []with
  |some (a,dss)=>Z (.rt (.i0 a (dss.map .a3)) [.I (.a3 L),.un,.un])
  |none=>O
 |_=>O
section
variable{X:Cx}{G:Bg}
theorem Hf:∀(bs:List Addr) (dss:List br),bs.length=dss.length->(∀(i:Nat) (b:Addr) (a:br),bs[i]?=Z b->dss[i]?=Z a->∃c,d b=Z (.a3 c)/\a6 G d a c)->
  a6 G d (dss.map .a3) (bs.map V.ref)
 |[],[],_,_=>wC
 |[],_::_,h,_=>by cases h
 |_::_,[],h,_=>by cases h
 |b::bs,a::dss,h,k=>by obtain⟨c,j,l⟩:=k 0 b a U U;exact wJ (D8 j l) (Hf bs dss (by simpa using h) λi b a e f=>k (i+1) b a e f)
theorem Xf(R:bt G F σ [.I (.a3 L),.un,s2] H0 H)(g:H4 G F H0 H a ks dss bs)(o:Obj):
  ∃r,vX H0 r/\bt G F σ [.I (.a3 L),.un,.un] r (ef H a (.mr o (.dK (ks.zip (bs.map V.ref)))))/\cm G r (.i0 ks (dss.map .a3)) (.ref a):=by
 have w:∀{b:Addr},b∈bs->∃xs,H b=Z (.a3 xs)/\H0 b=O/\F.B b=O:=λ{b} hb=>by obtain⟨i,hi,e⟩:=lX hb;obtain⟨xs,h,m,q,_⟩:=g.each i b (dss[i]'(by rw[<-g.vu];exact hi)) (by rw[aO hi,e]) (aO _);exact#v[xs,h,m,q]
 have na:a∉bs:=λz=>by obtain⟨xs,h,_⟩:=w z;rw[g.f?]at h;cases h
 have p:vX H0 (λc=>if c=a then Z (.mr o (.dK (ks.zip (bs.map V.ref))))else if c∈bs then H c else H0 c):=λc u e=>by
  have f:c≠a:=λz=>by subst z;rw[g.n0]at e;cases e
  have l:c∉bs:=λz=>by obtain⟨_,_,m,_⟩:=w z;rw[m]at e;cases e
  show (if c=a then _ else if c∈bs then H c else H0 c)=_;rw[ak f,ak l];exact e
 refine#v[_,p,?_,?_]
 .exact {
   sub:=λc u e=>by
    have d:(if c=a then Z (HO.mr o (.dK (ks.zip (bs.map V.ref))))else if c∈bs then H c else H0 c)=Z u:=e;by_cases f:c=a
    .subst f;rw[aj U]at d;rw[vI];exact d
    .rw[ak f]at d;rw[vM f];by_cases l:c∈bs
     .rw[aj l]at d;exact d
     .rw[ak l]at d;exact R.sub _ _ d
   g0:=R.g0.t p
   keep:=λc u e n=>by rw[vM (λz=>by subst z;rw[g.nB]at e;cases e)];exact R.keep c u e n
   fr:=λc u e=>by
    have d:=e;by_cases f:c=a
    .subst f;exact .inr g.nB
    .rw[ak f]at d;by_cases l:c∈bs
     .obtain⟨_,_,_,q⟩:=w l;exact .inr q
     .rw[ak l]at d;exact R.fr _ _ d
   am:=λc A=>by
    by_cases f:c=a
    .subst f;exact#v[_,vI]
    .rw[vM f];exact R.am c A
   len:=R.len
   sl:=λi s e=>by
    match i,e with
    |0,e=>cases e;obtain⟨v,h,m⟩:=R.sl 0 _ U;exact#v[v,h,cm.mono p _ _ m]
    |1,e=>cases e;trivial
    |2,e=>cases e;trivial
    |i+3,e=>cases e
   ap:=λi j s t b _ e _ so=>by
    match i,e with
    |0,e=>cases e;cases so
    |1,e=>cases e;cases so
    |2,e=>cases e;cases so
    |i+3,e=>cases e }
 .unfold cm;refine#v[a,o,bs.map V.ref,U,by show (if a=a then _ else _)=_;rw[aj U],by rw[ae];exact g.len,Hf bs dss g.vu λi b ds x y=>?_];obtain⟨xs,h,m,q,E⟩:=g.each i b ds x y;have hb:=bV x;refine#v[xs,?_,a6.mono p _ _ E];have C:b≠a:=λz=>na (by rw[<-z];exact hb);rw[ak C,aj hb];exact h
def TJ{L:br}{b:Sl}(h:b.f5=δ):∀s∈[Sl.I (.a3 L),.un,b],s.f5=δ:=λs a=>by
 simp only[aM,cg,or_false]at a;rcases a with rfl|rfl|rfl
 .rfl
 .rfl
 .exact h
inductive GI(G:Bg) (F:Fr) (Ha:Hp) (p:Addr) (L:br) (vk:D->Option D) (KS:List d?) (DSS:List br) (i:Nat) (σ':St) (H':Hp):Prop
 |mk (Hi:Hp) (ks:List d?) (dss:List br) (bs:List Addr) (s2:Sl):vX Ha Hi->Sl.f5 s2=δ->bt G F σ' [.I (.a3 L),.un,s2] Hi H'->σ'[1]?=Z (Z (.ref p))->H4 G F Hi H' p ks dss bs->DK vk (L.drop i) ks dss=Z (KS,DSS)->GI G F Ha p L vk KS DSS i σ' H'
set_option h true
def Q7(h1:PS X st1 (E7 NS (Be 1)))(h2:PS X st2 (Zz (L' G (iL (cV 0))) (Be 2) (ME G (c1 f (cV 2)))))
  (h3:PS X st3 (tRet (λC H Q=>EE 1 C H λx I=>Q x I\/∃a kvs,I a=Z (.dK kvs)/\∀o,Q x (ef I a (.mr o (.dK kvs)))))):m? X [st1,st2,st3] (ki G (Of f)):=
 m?.b? (HV h1 (HV h2 (Kz h3))) λE C H hh=>by
  obtain⟨F,ρ,H0,o,R,e,k,k2⟩:=hh;unfold Of at e;split at e
  .rename_i L;cases P:DK f L [] []with
   |none=>simp only[P]at e;cases e
   |some p=>
    obtain⟨KS,DSS⟩:=p;simp only[P]at e;cases e;intro p hp;have R1:=(R.ff hp (.dK [])).set (i:=1) (v:=.ref p) (s:=.un) trivial (λz=>by cases z);have t:C.length=3:=R.len;have g1:H4 G F H0 (ef H p (.dK [])) p [] [] []:=#v[vI,R.er hp,R.fg hp,U,U,mU,mU,λi b ds e1=>by cases e1];have v1:(C.set 1 (Z (V.ref p)))[1]?=Z (Z (.ref p)):=by rw[jL (by rw[t];decide)]
    refine#v[_,_,_,L,_,bt.still R1 (TJ U),U,λJ M Hb s A wk=>?_];have hs:=λb o e=>A.keep b o e (by simp);have R2:=R1.fx hs s A.sub A.fr;have g2:=g1.fx hs s A.fr;refine#v[λi m w h=>m=L.length - i/\i<=L.length/\GI G F M p L f KS DSS i w h,
     #v[_,U,bR _,M,[],[],[],.un,vX.refl _,U,R2,v1,g2,P],?_]
    rintro i m d j ⟨rfl,hi,Hi,ks,dss,bs,s2,B,n2,l,vi,W,c⟩;by_cases hlt:i<L.length
    .have ed:=iR hlt;rw[ed]at c;unfold DK at c;cases T:f L[i]with
     |none=>simp only[T]at c;cases c
     |some x=>
      simp only[T]at c;cases S:B4 x with
      |none=>simp only[S]at c;cases c
      |some kk=>
       simp only[S]at c;split at c
       .rename_i Y;simp only[aW,bK,aH]at Y;obtain⟨go,yl⟩:=(wk i Hi j B l.sub).1 L[i] (aO hlt);refine .inr #v[go,GI G F M p L f KS DSS (i+1),
         λw h q=>#v[L.length - (i+1),by omega,U,hlt,q],λu h y=>?_]
        obtain⟨H2,t1,t2,t3,t4,t5⟩:=yl u h y;have hl3:d.length=3:=l.len;have R3:bt G F (d.set 2 (Z u)) [.I (.a3 L),.un,.I L[i]] H2 h:=(l.fx t3 t1 t2 t4).setIm 2 t5;have w1:(d.set 2 (Z u))[1]?=Z (Z (.ref p)):=by rw[lD (by decide)];exact vi
        have w2:(d.set 2 (Z u))[2]?=Z (Z u):=by rw[jL (by rw[hl3];decide)]
        refine TH R3 (TJ U) w1 w2 t5 (W.fx t3 t1 t4) (by show c1 f (cV 2) _=_;unfold c1 cV;simp only[List.getElem?_cons_succ,List.getElem?_cons_zero,T]) S Y.1 (λds hd=>Y.2 ds hd) λHc Hd N sc Rc gc=>?_;exact#v[Hc,_,_,N,_,B.t (t1.t sc),U,Rc,w1,gc,c]
       .cases c
    .have r:i=L.length:=by omega
     refine .inl #v[(wk i Hi j B l.sub).2 r,?_];subst r;rw[mG]at c;cases c;refine#v[.ref p,vi,.inr #v[p,_,W.f?,λo=>?_]];obtain⟨Hq,q1,q2,q3⟩:=Xf l W o;exact k _ _ Hq _ (s.t (B.t q1)) q2 q3
  .cases e
end
set_option h false
section
variable{X:Cx}{G:Bg}
set_option r "Xg int;TL bool;S' tuple" in def ϑ0:∀y b,xy "ϑ1" y=Z b->cM X.K (y.val G) (.type "ϑ1")=Z b:=IE (by kernel_rfl)
end
def G?(F:Fr)(p:Addr)(o:HO):Fr:=#v[F.B0,λb=>if b=p then Z o else F.B b,F.A]
def HN:(G? F p o).B p=Z o:=by show (if p=p then _ else _)=_;rw[aj U]
theorem D9(h:b≠p):(G? F p o).B b=F.B b:=by show (if b=p then _ else _)=_;rw[ak h]
theorem EG.frame{m:Fr}(h:EG G F r H o s)(hA:m.A=F.A)(hB:∀a,o=Z (.ref a)->s.f5=γ->F.B a=O->m.B a=O):EG G m r H o s:=by
 cases s with
 |un=>trivial
 |I d=>exact h
 |Y p=>obtain⟨a,l,b,e,f,i,j⟩:=h;exact#v[a,l,b,e,f,hB a b U i,j]
 |pm p=>obtain⟨a,l,b,e,f,i,j⟩:=h;exact#v[a,l,b,e,f,by rw[hA];exact i,j]
 |dk u p=>obtain⟨a,l,b,e,f,i,j,q⟩:=h;exact#v[a,l,b,e,f,hB a b U i,j,q]
 |ob c w p=>obtain⟨a,t,l,b,e,f,i,j,q⟩:=h;exact#v[a,t,l,b,e,f,by rw[hA];exact i,j,q]
section
variable{X:Cx}{G:Bg}{F:Fr}{σ:St}{ρ:bc}{H0 H:Hp}{p:Addr}{o:HO}
theorem bt.G?(R:bt G F σ ρ H0 H)(c:H p=O)(o:HO):bt G (L4.G? F p o) σ ρ H0 (ef H p o) where
 sub:=(R.ff c o).sub
 g0:=R.g0
 keep:=λb u e n=>by
  by_cases hb:b=p
  .subst hb;rw[HN]at e;rw[vI];exact e
  .rw[D9 hb]at e;exact(R.ff c o).keep b u e n
 fr:=λb u e=>by
  have hb:b≠p:=λz=>by subst z;rw[R.er c]at e;cases e
  rw[D9 hb];exact R.fr b u e
 am:=(R.ff c o).am
 len:=R.len
 sl:=λi s e=>by refine EG.frame ((R.ff c o).sl i s e) U λa h1 so hB=>?_;obtain⟨d,u,q1,q2,_⟩:=(R.sl i s e).at so;rw[h1]at q1;cases q1;rw[D9 (λz=>by subst z;rw[c]at q2;cases q2)];exact hB
 ap:=R.ap
theorem bt.x1(R:bt G (L4.G? F p o) σ ρ H0 H)(hB:F.B p=O):bt G F σ ρ H0 H where
 sub:=R.sub
 g0:=R.g0
 keep:=λb u e n=>R.keep b u (by rw[D9 (λz=>by subst z;rw[hB]at e;cases e)];exact e) n
 fr:=λb u e=>by
  rcases R.fr b u e with z|z
  .exact .inl z
  .by_cases hb:b=p
   .subst hb;exact .inr hB
   .rw[D9 hb]at z;exact .inr z
 am:=R.am
 len:=R.len
 sl:=λi s e=>EG.frame (R.sl i s e) U λa h1 so q=>by
  by_cases hb:a=p
  .subst hb;exact hB
  .rw[D9 hb]at q;exact q
 ap:=R.ap
theorem bt.layHeld(R:bt G (L4.G? F p o) σ ρ H0 H)(hB:F.B p=O)(h0:H0 p=O)(nA:p∉F.A)(u:HO):bt G F σ ρ (ef H0 p u) (ef H p u) where
 sub:=λb v e=>by
  by_cases hb:b=p
  .subst hb;rw[vI]at e ⊢;exact e
  .rw[vM hb]at e ⊢;exact R.sub _ _ e
 g0:=(bt.x1 R hB).g0.t (vV h0 u)
 keep:=λb v e n=>by rw[vM (λz=>by subst z;rw[hB]at e;cases e)];exact(bt.x1 R hB).keep b v e n
 fr:=λb v e=>by
  by_cases hb:b=p
  .subst hb;exact .inr hB
  .rw[vM hb]at e;exact(bt.x1 R hB).fr _ _ e
 am:=λb hb=>by
  have c:b≠p:=λz=>by subst z;exact nA hb
  rw[vM c];exact R.am b hb
 len:=R.len
 sl:=λj t e=>by
  have ne:∀a,(σ[j]?).join=Z (.ref a)->t.f5=γ->a≠p:=λa z to y=>by
   subst y;obtain⟨d,v,q1,_,_,q4⟩:=(R.sl j t e).at to;rw[z]at q1;cases q1;rcases q4 with q|q
   .rw[HN]at q;cases q
   .exact nA q
  refine((bt.x1 R hB).sl j t e).fx (vV h0 u) (λa v z to q=>?_) λa v z to q q0=>?_
  .rw[vM (ne a z to)];exact q
  .rw[vM (ne a z to)];exact q0
 ap:=R.ap
def Cy:List (Str×FE)->bc->Option (br×bc)
 |[],ρ=>Z ([],ρ)
 |(_,f)::r,ρ=>match f ρ with
  |some (d,a)=>match Cy r a with
   |some (c,b)=>Z (d::c,b)
   |none=>O
  |none=>O
def TM(G:Bg)(kfs:List (Str×FE)):List (TE×TE):=kfs.map λq=>(tC (.str q.1),tF G q.2)
theorem MF:∀(kfs:List (Str×FE)) (ρ b:bc) (i:br) (H0 H:Hp) (Q:List (V×V)->Hp->Prop),bt G F σ ρ H0 H->Cy kfs ρ=Z (i,b)->
  (∀j h a,vX H0 h->bt G F σ b h a->a6 G h i j->Q (fC (λk v=>(V.str k,v)) (kfs.map (·.1)) j) a)->KL (TM G kfs) σ H Q
 |[],ρ,b,i,H0,H,Q,R,e,k=>by cases e;exact k [] H0 H (vX.refl _) R wC
 |(x,f)::r,ρ,b,i,H0,H,Q,R,e,k=>by
  unfold Cy at e;cases t:f ρ with
  |none=>simp only[t]at e;cases e
  |some q=>
   obtain⟨d,c⟩:=q;simp only[t]at e;cases u:Cy r c with
   |none=>simp only[u]at e;cases e
   |some q=>obtain⟨m,B⟩:=q;simp only[u]at e;cases e;refine#v[F,ρ,H0,d,c,R,t,λv h a s z A=>?_];exact MF r c _ m h a _ z u λj y l w R2 rs=>k (v::j) y l (s.t w) R2 (wJ (cm.mono w _ _ A) rs)
theorem MG:∀(more acc:List (d?×V)),((acc++more).map (·.1)).Nodup->EF acc more=acc++more
 |[],acc,_=>by rw[cf];rfl
 |q::r,acc,h=>by
  have c:(acc.any λkv=>decide (kv.1=q.1))=δ:=by rw[jd];intro z;obtain⟨y,b,a⟩:=fN.1 z;rw[aX,cu]at h;exact h.2.2 y.1 (b8 b) q.1 (b8 ba) (bh a)
  have e:gw acc q.1 q.2=acc++[q]:=by unfold gw;rw[c];rfl
  show EF (gw acc q.1 q.2) r=_;rw[e,MG r (acc++[q]) (by simpa using h)];simp
def Q8:ef (ef H p x) p y=ef H p y:=by
 funext b
 by_cases a:b=p
 .subst a;rw[vI,vI]
 .rw[vM a,vM a,vM a]
def Hg(kfs:List (Str×FE)):FE:=λρ=>match Cy kfs ρ with
 |some (b,a)=>Z (.i0 (kfs.map λq=>Sum.inr q.1) b,a)
 |none=>O
theorem IK:∀{kfs:List (Str×FE)} {ρ a:bc} {b:br},Cy kfs ρ=Z (b,a)->b.length=kfs.length
 |[],ρ,a,b,e=>by cases e;rfl
 |(x,f)::r,ρ,a,b,e=>by
  unfold Cy at e;cases i:f ρ with
  |none=>simp only[i]at e;cases e
  |some q=>
   obtain⟨d,h⟩:=q;simp only[i]at e;cases c:Cy r h with
   |none=>simp only[c]at e;cases e
   |some q=>obtain⟨j,l⟩:=q;simp only[c]at e;cases e;rw[aU,aU,IK c]
theorem MH:∀(a:aB) (b:bF),fC (λk v=>(V.str k,v)) a b=((a.map λk=>(Sum.inr k:d?)).zip b).map λkv=>(kV kv.1,kv.2)
 |[],b=>rfl
 |k::a,[]=>rfl
 |k::a,v::b=>by show (V.str k,v)::_=_;rw[MH a b];rfl
theorem Xh(h:PE X e (Yy (TM G kfs)))(x:(kfs.map λq=>(Sum.inr q.1:d?)).Nodup)(l:kfs.length<=15):PE X e (tF G (Hg kfs)):=PE.b? (PE.ZY h) λσ H Q t=>by
 obtain⟨F,ρ,H0,d,E,R,e,k⟩:=t;unfold Hg at e;cases a:Cy kfs ρ with
 |none=>simp only[a]at e;cases e
 |some q=>
  obtain⟨r,I⟩:=q;simp only[a]at e;cases e;intro p b;have hB:F.B p=O:=R.fg b;have nA:p∉F.A:=λz=>by obtain⟨u,q⟩:=R.am p z;rw[b]at q;cases q
  refine MF kfs ρ _ r H0 _ _ (bt.G? R b (.dK [])) a λc m f s i rs=>?_;have C:f p=Z (.dK []):=i.keep p _ HN nA;have j:m p=O:=by
   cases q:m p with
   |none=>rfl
   |some u=>
    rcases i.fr p u q with z|z
    .have:=R.g0 _ _ z;rw[R.er b]at this;cases this
    .rw[HN]at z;cases z
  have lv:(kfs.map λq=>(Sum.inr q.1:d?)).length=c.length:=by rw[ae,<- IK a,vH rs]
  have w:(((kfs.map λq=>(Sum.inr q.1:d?)).zip c).map (·.1))=kfs.map λq=>(Sum.inr q.1:d?):=List.map_fst_zip (by rw[lv];exact aI _)
  refine#v[C,(kfs.map λq=>(Sum.inr q.1:d?)).zip c,?_,?_,.inr #v[p,_,vI,λy=>?_]]
  .rw[MH,aY];rfl
  .rw[il,<- lv,gQ,ae];exact l
  .rw[Q8,MG _ [] (by rw[cD,w];exact x),cD];refine k _ _ _ (s.t (vV j _)) (bt.layHeld i hB j nA _) ?_;unfold cm;exact#v[p,y,c,U,vI,lv,a6.mono (vV j _) _ _ rs]
end
end L4
namespace L4
open PySem PySem.Spec PySem.Calls PyProof.Rows PySem.W L2 L3
def Q9{b:Type}(c:Nat->Nat->Bool):KasT b->b
 |.ret a=>a
 |.ask i j k=>Q9 c (k (c i j))
def AN{c:Type}(P:Nat->Nat->Prop)(R:c->Prop):KasT c->Prop
 |.ret a=>R a
 |.ask i j k=>P i j/\∀b,AN P R (k b)
theorem AN.run{b:Type}{P:Nat->Nat->Prop}{R:b->Prop}(c:Nat->Nat->Bool):∀(t:KasT b),AN P R t->R (Q9 c t)
 |.ret a,h=>h
 |.ask i j k,h=>AN.run c (k (c i j)) (h.2 (c i j))
theorem AN.bind{c e:Type}{P:Nat->Nat->Prop}{R:c->Prop}{S:e->Prop}{f:c->KasT e}(d:∀a,R a->AN P S (f a)):∀{t:KasT c},AN P R t->AN P S (t.bind f)
 |.ret a,h=>d a h
 |.ask i j k,h=>#v[h.1,λb=>AN.bind d (h.2 b)]
theorem Pm{b:Type}{cmp:Nat->Nat->(Bool->af->Prop)->af->Prop}{c:Nat->Nat->Bool}{P:Nat->Nat->Prop}{s:af}{Q:b->af->Prop}(d:∀i j C,P i j->C (c i j) s->cmp i j C s):
  ∀{R:b->Prop} {t:KasT b},AN P R t->Q (Q9 c t) s->t.kasWp cmp Q s
 |R,.ret a,_,q=>q
 |R,.ask i j k,h,q=>d i j _ h.1 (Pm d (h.2 (c i j)) q)
def yF(n:Nat)(p:Array Nat):Prop:=p.toList.Perm (aC n)
set_option h true
theorem yF.getD(h:yF n p)(a:0<n)(i:Nat):p.getD i 0<n:=by
 unfold Array.getD;split
 .rename_i b;have:p[i]∈p.toList:=by simp
  exact bB.1 (h.mem_iff.1 this)
 .exact a
set_option h false
def yF.rev(h:yF n p)(i j:Nat):yF n (kas_rev p i j):=by exact(oI.1 (foldl_swaps_perm _ _ _ _)).t h
def yF.bub(h:yF n p)(i j:Nat):yF n (bubble p i j):=(oI.1 (bubble_perm _ _ _)).t h
abbrev In2(n:Nat):Nat->Nat->Prop:=λi j=>i<n/\j<n
theorem K0(a:0<n)(h:yF n p):∀f k,AN (In2 n) (λt=>True) (kas_asc p f k)
 |0,k=>trivial
 |f+1,k=>#v[#v[h.getD a _,h.getD a _],λb=>by cases b<;>first|exact trivial|exact K0 a h f (k+1)]
theorem FB(a:0<n):∀f (p:Array Nat) k q,yF n p->AN (In2 n) (λr=>yF n r.1) (kas_desc f p k q)
 |0,p,k,q,h=>h
 |f+1,p,k,q,h=>#v[#v[h.getD a _,h.getD a _],λb=>by
   cases b with
   |true=>
    split
    .exact FB a f _ _ _ (h.rev _ _)
    .exact FB a f _ _ _ h
   |false=>
    refine#v[#v[h.getD a _,h.getD a _],λd=>?_];cases d with
    |true=>exact h
    |false=>exact FB a f _ _ _ h]
def MI(b:0<n)(h:yF n p)(k m:Nat):AN (In2 n) (λr=>yF n r.2) (kas_tail3 k m p):=
 AN.bind (S:=λ(r:Nat×Array Nat)=>yF n r.2) (f:=λm=>.ret (m,kas_rev p 0 k)) (λa t=>h.rev 0 k) (K0 b (h.rev 0 k) _ _)
def FC(a:0<n)(h:yF n p)(k m:Nat):AN (In2 n) (λr=>yF n r.2) (kas_descPart k m p):=
 AN.bind (λr b=>by
  split
  .exact MI a (b.rev _ _) _ _
  .exact MI a b _ _) (FB a _ p _ _ h)
def Rb(a:0<n)(h:yF n p)(m:Nat):AN (In2 n) (λr=>yF n r.2) (kas_count m p):=
 AN.bind (λk t=>by
  split
  .exact h
  .split
   .refine#v[#v[h.getD a _,h.getD a _],λb=>?_];cases b with
    |true=>exact h
    |false=>exact FC a (h.rev _ _) _ _
   .exact FC a h _ _) (K0 a h _ _)
theorem Gv(a:0<n)(h:yF n p)(k:Nat):∀f l r,AN (In2 n) (λt=>True) (kas_place p k f l r)
 |0,l,r=>trivial
 |f+1,l,r=>by
  unfold kas_place;split
  .trivial
  .refine#v[#v[h.getD a _,h.getD a _],λb=>?_];cases b with
   |true=>exact Gv a h k f _ _
   |false=>exact Gv a h k f _ _
theorem Pn(a:0<n):∀f (p:Array Nat) k,yF n p->AN (In2 n) (yF n) (kas_bin f p k)
 |0,p,k,h=>h
 |f+1,p,k,h=>AN.bind (λl t=>Pn a f _ _ (h.bub _ _)) (Gv a h k _ _ _)
def IL(a:0<n):AN (In2 n) (yF n) (kB n):=
 AN.bind (λr b=>by
  split
  .exact Pn a _ _ _ b
  .exact b) (Rb a (by unfold yF;exact List.Perm.refl _) n)
def Ea(a:Addr)(h c:Heap):Prop:=∀b o,b≠a->h.get? b=Z o->c.get? b=Z o
section
variable{prog:aL}{w:aE}{A:aR}{E:ab->af->Prop}{s:af}
def Gw(c:Nat->Nat->Bool)(a:List ab):List ab:=(Q9 c (kB a.length)).toList.map λi=>a.getD i Value.none
def TN(c:Nat->Nat->Bool)(a:List ab)(h:0<a.length):(Gw c a).length=a.length:=by unfold Gw;rw[ae];have:=(IL h).run c _;rw[this.length_eq,bL]
def TQ(c:Nat->Nat->Bool)(v:ab):Gw c [v]=[v]:=rfl
def TR{vs:List ab}(F:s.heap.get? a=Z (seqObj "list" vs.toArray n))(h1:0<vs.length)(u:vs.length<64)
  (R:∀(h':Heap) (C:SortKind->af->Prop),Ea a s.heap h'->C J { s with heap:=h' }->ao (model prog w) A (keyKind' vs.toArray) C (λ_ _=>False) { s with heap:=h' })
  (N:∀(h':Heap) (i j:Nat) (C:Bool->af->Prop),Ea a s.heap h'->i<vs.length/\j<vs.length->C (c i j) { s with heap:=h' }->kC prog w A J vs i j C { s with heap:=h' })
  (h:∀h' e,Ea a s.heap h'->h'.get? a=Z (seqObj "list" (Gw c vs).toArray e)->P (.done (.ret .none)) { s with heap:=h' }):
  ao (model prog w) A (fG.«list.sort» #v[[.ref a],[]]) P E s:=by
 obtain⟨t,I⟩:∃t,(s.heap.update a (eE λ_=>(#[]:Array ab))).get? a=Z (seqObj "list" #[] t):=#v[_,qL F λ_=>#[]];generalize hw:((s.heap.update a (eE λ_=>(#[]:Array ab))).push (seqObj "tuple" vs.toArray 0)).push (seqObj "list" #[] 0)=h3;have H:Ea a s.heap h3:=λb o hb q=>by rw[<-hw];exact aT _ (aT _ ((iX s.heap _ (dR hb)).t q))
 have m:h3.get? a=Z (seqObj "list" #[] t):=by rw[<-hw];exact aT _ (aT _ I)
 rw[list_sort_plain];refine ai (listItems_at F U (ai (m6 F U ?_ (by rw[bp,bX];omega) (bR _))));refine ai (nF I U (ai (ra ?_ (by show vs.length<=_;rw[bX];omega))));refine ai (m7 (cJ ?_) (bR _));rw[hw];obtain⟨c2,B⟩:∃c2,(h3.update a (eE λ_=>(Gw c vs).toArray)).get? a=Z (seqObj "list" (Gw c vs).toArray c2):=#v[_,qL m λ_=>(Gw c vs).toArray];have fin:=h _ c2 (λb o hb q=>(iX h3 _ (dR hb)).t (H b o hb q)) B;have szo:(Gw c vs).toArray.size<=aJ+1:=by rw[bp,TN c vs h1,bX];omega
 by_cases h2:2<=vs.length
 .have l:¬vs.toArray.size<2:=by rw[bp];omega
  rw[ak l,ak l];refine ai (cA (R h3 (λk f=>k=J/\f={ s with heap:=h3 }) H #v[U,U]) ?_ λ_ _ x=>x.elim);rintro k f ⟨rfl,rfl⟩;refine ai (cA (kat_run (Q:=λd f=>f={ s with heap:=h3 }/\(arrOf d).map (·.2)=(Gw c vs).toArray/\failedOf d=O) (G:=λp f=>p=Q9 c (kB vs.length)/\f={ s with heap:=h3 }) U h2 u ?_ ?_) ?_ λ_ _ e=>e)
  .rintro p d f _ har hf ⟨rfl,rfl⟩;exact#v[U,kat_snds U har,hf]
  .exact Pm (λi j C q r=>N h3 i j C H q r) (IL h1) #v[U,U]
  .rintro⟨⟨⟩,d⟩ f ⟨rfl,z,hf⟩;refine ai (nF m U ?_);rw[z,hf];refine ai (m6 m U ?_ (bR _) szo);simp only[bne_self_eq_false,gp,if_false];exact ar fin
 .obtain⟨v,rfl⟩:∃v,vs=[v]:=by
   cases vs with
   |nil=>cases h1
   |cons v r=>
    cases r with
    |nil=>exact#v[v,U]
    |cons x y=>exact aq (by simp) h2
  refine ai (ar ?_);refine ai (ar ?_);refine ai (nF m U ?_);have M:sA (λx=>x.snd) (arrOf ((),SortSt.mk' general' (#[v].zip #[v]) #[] 7 O).snd)=(Gw c [v]).toArray:=by rw[TQ];show sA (λx=>x.snd) (#[v].zip #[v])=#[v];simp
  rw[M];refine ai (m6 m U ?_ (bR _) szo);simp only[bne_self_eq_false,gp,if_false];exact ar fin
def Og{vs:List ab}(hT:T="list" \/ T="tuple")(t:s.heap.get? l=Z o)(hcl:o.cls=.type T)(hd:o.data=.seq vs.toArray n)(h1:0<vs.length)(f:vs.length<64)
  (p:∀(h':Heap) (C:SortKind->af->Prop),(∀b o,s.heap.get? b=Z o->h'.get? b=Z o)->C κ { s with heap:=h' }->ao (model prog w) A.in1.in1 (keyKind' vs.toArray) C (λ_ _=>False) { s with heap:=h' })
  (m:∀(h':Heap) (i j:Nat) (C:Bool->af->Prop),(∀b o,s.heap.get? b=Z o->h'.get? b=Z o)->i<vs.length/\j<vs.length->C (c i j) { s with heap:=h' }->kC prog w A.in1.in1 κ vs i j C { s with heap:=h' })
  (h:∀(g h':Heap) e,(∀b o,s.heap.get? b=Z o->g.get? b=Z o)->(∀b o,g.get? b=Z o->h'.get? b=Z o)->h'.get? g.objs.size=Z (seqObj "list" (Gw c vs).toArray e)->Q (.ref g.objs.size) { s with heap:=h' }):
  ao (model prog w) A (call (.builtin "sorted") [.ref l]) Q E s:=by
 refine oJ kind_sorted plain_sorted entry_sorted (args_sorted1 _) ?_;refine ai (ar (ai (wpAny_collect_seq l hT t hcl hd (λg d=>?_) (by rw[bX];simp;omega))));refine ai (m7 ?_ (by rw[bX];simp;omega));have on:(g.push (seqObj "list" vs.toArray 0)).get? g.objs.size=Z (seqObj "list" vs.toArray 0):=bA _ U;have all:∀h',Ea g.objs.size (g.push (seqObj "list" vs.toArray 0)) h'->∀b o,g.get? b=Z o->h'.get? b=Z o:=λh' a b o q=>a b o (bj (bb q)) (aT _ q)
 refine ai (cJ (fM rb #v[_,on,U] qM ?_ (rg _)));refine TR on h1 f (λh' C a q=>p h' C (λb o z=>all h' a b o (d b o z)) q) (λh' i j C a q r=>m h' i j C (λb o z=>all h' a b o (d b o z)) q r) λh' e a q=>?_;exact#v[_,U,ar #v[_,U,h g h' e d (all h' a) q]]
end
def ltS(a b:Str):Bool:=decide (a.cps.toList<b.cps.toList)
def JG:aB->aB->Bool
 |[],[]=>δ
 |[],_::_=>γ
 |_::_,[]=>δ
 |x::a,y::b=>if x=y then JG a b else ltS x y
inductive Bh:List ab->aB->Prop
 |nil:Bh [] []
 |cons (x:Str) (t:Tok) {vs:List ab} {xs:aB} (h:Bh vs xs):Bh (.str x t::vs) (x::xs)
def Oh(c:Nat->Nat->Bool)(n:Nat):List Nat:=(Q9 c (kB n)).toList
def Gx(c:Nat->Nat->Bool)(h:0<n):(Oh c n).Perm (aC n):=(IL h).run c _
def K1(c:Nat->Nat->Bool)(h:0<n):∀i∈Oh c n,i<n:=λi a=>bB.1 ((Gx c h).mem_iff.1 a)
theorem J7(r:c6 a c):∀(is:List Nat),(∀i∈is,i<a.length)->c6 (is.map λi=>a.getD i V.U) (is.map λi=>c.getD i Value.none)
 |[],_=>.nil
 |i::is,h=>by have b:=h i (.head _);obtain⟨u,e,f⟩:=r.get (aO b);refine .cons ?_ (J7 r is λj d=>h j (.tail _ d));show dd (a.getD i V.U) (c.getD i Value.none);rw[bQ,bQ,e,aO b];exact f
section
variable{X:Cx}{G:Bg}{pins:cO}{σ:St}{H:Hp}{s:af}
def seq_val(I:b0 X pins σ H s)(c:e8 X.K H a h\/e? X.K H a h):∃b,c6 h b/\∃T o n,(T="list" \/ T="tuple")/\s.heap.get? a=Z o/\o.cls=.type T/\o.data=.seq b.toArray n:=by
 rcases c with c|c
 .obtain⟨b,f,pl,_⟩:=I.list c;obtain⟨o,a1,d,n,e⟩:=pl.isList;exact#v[b,f,_,o,n,.inl U,a1,d,e]
 .obtain⟨b,f,⟨o,a1,d,n,e⟩,_⟩:=I.tuple c;exact#v[b,f,_,o,n,.inr U,a1,d,e]
def B5:br->Option aB
 |[]=>Z []
 |.str x::a=>match B5 a with
  |some b=>Z (x::b)
  |none=>O
 |_=>O
theorem CA:∀{a:br} {b:bF} {l:aB},a6 G H a b->B5 a=Z l->b=l.map V.str
 |[],b,l,r,e=>by cases e;unfold a6 at r;exact r
 |d::a,b,l,r,e=>by
  cases d with
  |str x=>
   unfold B5 at e;cases c:B5 a with
   |none=>rw[c]at e;cases e
   |some i=>rw[c]at e;cases e;unfold a6 at r;obtain⟨v,j,rfl,f,h⟩:=r;unfold cm at f;subst f;rw[CA h c,aV]
  |_=>cases e
theorem J8(r:a6 G H a c):∀(is:List Nat),(∀i∈is,i<a.length)->a6 G H (is.map λi=>a.getD i .U) (is.map λi=>c.getD i V.U)
 |[],_=>wC
 |i::is,h=>by have b:=h i (.head _);obtain⟨v,e,f⟩:=AL r (aO b);refine wJ ?_ (J8 r is λj d=>h j (.tail _ d));show cm G H (a.getD i .U) (c.getD i V.U);rw[bQ,bQ,e,aO b];exact f
end
end L4
namespace L4
open PySem PySem.Spec PyProof.Rows L2 L3
section
variable{X:Cx}{G:Bg}
set_option h true
def Xj:i1 G (λx y H Q=>∃z n,x=.str z/\y=.int n/\MulOk z n/\Q (.str (fF z n)) H) II:=λx y z o H v u Q e s d f k=>by
 unfold II at e;split at e
 .rename_i a n;split at e
  .rename_i m;obtain⟨p,r,h⟩:=m;cases e;unfold cm at d f;refine#v[a,n,d,f,#v[?_,λi j l=>?_,λi j=>?_],k _ λt t=>Aj _]
   .rw[lG];exact#v[aP (by omega),aP (by omega)]
   .have c:(0:Int)<n:=by omega
    have q:(9223372036854775807:Int) / n >= 9223372036854775:=by have:=Int.le_ediv_of_mul_le (a:=9223372036854775) (b:=9223372036854775807) c (by omega);exact this
    have:((2:Int) ^ 63 - 1)=9223372036854775807:=by decide
    rw[this]at l;omega
   .have c:n.toNat<=1000:=by omega
    have:a.length * n.toNat<=100 * 1000:=Nat.mul_le_mul h c;refine aP ?_;rw[bX];omega
  .cases e
 .cases e
end
set_option h false
def Po:List String:=["NoneType", "bool", "int", "str", "tuple", "list", "dict"]
def zq(n c:Nat):Ty->Option Bool:=λy=>match y with
 |.b x=>if Po.contains x=γ then Z δ else O
 |.c k=>if k<n then Z (k==c)else O
def K2(K:aw)(cs:List Addr)(C:Addr)(c:Nat):Bool:=
 Po.all (λx=>cM K (.type x) (.ref C)==Z δ)&&(aC cs.length).all λk=>cM K (.ref (cs.getD k 0)) (.ref C)==Z (k==c)
set_option h true
def xh{B:Bg}(h:K2 B.K cs (B.ca c) c=γ)(i:cs.length=n)(d:∀k,k<n->cs.getD k 0=B.ca k)(hI:∀k,k<n->JF B.K (B.ca k)):N6 B c (zq n c):=by
 unfold K2 at h;rw[aW,aH,aH]at h;refine#v[λy b e=>?_,λj b e=>?_]
 .cases y with
  |b x=>
   unfold zq at e;simp only at e;split at e
   .rename_i f;cases e;exact fY (h.1 x (lA.1 f))
   .cases e
  |c k=>
   unfold zq at e;simp only at e;split at e
   .rename_i a;cases e;have:=fY (h.2 k (bB.2 (by omega)));rw[d k a]at this;exact this
   .cases e
 .unfold zq at e;simp only at e;split at e
  .rename_i a;exact hI j a
  .cases e
set_option h false
def aa0{l:List Addr}(h:l.Nodup)(a:j<l.length)(b:k<l.length)(e:l.getD j 0=l.getD k 0):j=k:=by
 rw[bQ,bQ,aO a,aO b]at e;have c:=List.pairwise_iff_getElem.1 h;rcases Nat.lt_trichotomy j k with y|y|y
 .exact aq e (c j k a b y)
 .exact y
 .exact aq e.symm (c k j b a y)
section
variable{B:Bg}{K:aw}{mg:Str->Option ab}{h:Heap}
def Rk(X:K.In h)(a:h.Ns bN mg)(e:jw K bN x=Z (Z (.int i t))):Bj B mg x (.int i):=
 #v[.int i,_,jv X a e,#v[_,U],λs=>yf _]
inductive CB:List ab->aB->Prop
 |nil:CB [] []
 |cons {v:ab} {x:Str} {t:Tok} {vs:List ab} {xs:aB} (e:v=.str x t) (h:CB vs xs):CB (v::vs) (x::xs)
def CB.vals(h:CB b c):c6 (c.map V.str) b:=by
 induction h with
 |nil=>exact .nil
 |cons e h a=>exact .cons #v[_,e] a
theorem IM:∀a:aB,a6 B H (a.map D.str) (a.map V.str)
 |[]=>wC
 |x::a=>wJ (Aj x) (IM a)
def Oi(c:aB)(X:B.K.In h)(d:h.Ns bN mg)(e:jw B.K bN x=Z (Z (.ref a)))(l:B.K.lookup a=Z o)(f:o.cls=.type "tuple")(hd:o.data=.seq b n)(i:b.size<=1000)
  (r:CB b.toList c):Bj B mg x (.a7 (c.map D.str)):=
 #v[.ref a,_,jv X d e,U,λH=>D7 (.inr #v[o,b,n,l,f,hd,by rw[bX];omega,r.vals]) (IM c)]
end
section
variable{f g' h:FS}{c:FT}{e e' e2:FE}{a a':FA}{ρ ρ' ρ1 ρ2 ρ3:bc}{d x y z:D}{ds xs ys:br}{k:Nat}{d3:List Nat}{g:FG}{ft:FT}{fe:FE}
theorem IP{i:Type}(j:i->D)(p:i->Bool)(h:i->D):∀l:List i,
  (∀a∈l,∃ρ1 ρ2,g (j a) (HD k d3 ρ)=Z ρ1/\ft ρ1=Z (p a,ρ2)/\(p a=γ->∃ρ3,fe ρ2=Z (h a,ρ3)/\zG d3 (ρ3.drop k) ρ=Z ρ)/\(p a=δ->zG d3 (ρ2.drop k) ρ=Z ρ))->
  Eo k d3 g ft fe (l.map j) ρ=Z ((l.filter p).map h,ρ)
 |[],_=>rfl
 |a::l,st=>by
  obtain⟨ρ1,ρ2,o,q,r,t⟩:=st a ba;have m:=IP j p h l λa' A=>st a' (a9 _ A);rw[aV];unfold Eo;rw[o];simp only[q];cases b:p a with
  |true=>obtain⟨ρ3,u,w⟩:=r b;simp only[u,w,m,gx,b,if_true,aV]
  |false=>simp only[t b,m,gx,b];rfl
def Xk{i:Type}(b:i->D)(h:i->D)(l:List i)(st:∀a∈l,∃ρ1 ρ3,g (b a) (HD k d3 ρ)=Z ρ1/\fe ρ1=Z (h a,ρ3)/\zG d3 (ρ3.drop k) ρ=Z ρ):Eo k d3 g wH fe (l.map b) ρ=Z (l.map h,ρ):=by have:=IP (ft:=wH) b (λt=>γ) h l λa p=>let #v[ρ1,ρ3,j,m,o]:=st a p;#v[ρ1,ρ1,j,U,λt=>#v[ρ3,m,o],λz=>by cases z];rw[this,pF.2 λt t=>U]
def TU(a:Str)(l:aB):inV (V.str a) (l.map V.str)=decide (a∈l):=by
 unfold inV;rw[d6,fN,bK];constructor
 .rintro⟨v,o,i⟩;obtain⟨b,m,rfl⟩:=au.1 o;have:=by unfold eqV at i;simpa using i
  rw[<-this];exact m
 .intro j;refine#v[.str a,b8 j,?_];unfold eqV;simp
def Re(l:aB):(l.map D.str).all yC=γ:=by rw[rQ,aH];intro x _;rfl
def Xl(l:aB):(l.map D.str).map vD=l.map V.str:=by rw[aY];rfl
def yX(neg:Bool)(a:Str)(l:aB):j0 neg (.str a) (.a3 (l.map D.str))=Z (.X (if neg then !decide (a∈l)else decide (a∈l))):=by show (if yC (.str a)&&(l.map D.str).all yC then Z (D.X (if neg then !inV (vD (.str a)) ((l.map D.str).map vD)else inV (vD (.str a)) ((l.map D.str).map vD)))else O)=_;rw[Re,Xl];show Z (D.X (if neg then !inV (V.str a) (l.map V.str)else inV (V.str a) (l.map V.str)))=_;rw[TU]
def AO(neg:Bool)(a:Str)(l:aB):j0 neg (.str a) (.a7 (l.map D.str))=Z (.X (if neg then !decide (a∈l)else decide (a∈l))):=yX neg a l
theorem K4:∀bs:List Bool,JE (bs.map D.X)=Z bs
 |[]=>rfl
 |b::bs=>by rw[aV];unfold JE;rw[K4 bs];rfl
set_option r "V zX ll;X HE ny" in def Tϑ0(bs:List Bool):ϑ1 (.a3 (bs.map D.X))=Z (.X (bs.aϑ2 id)):=by unfold ϑ1;simp only[K4];rfl
def K5{b:Type}(l:List b)(p:b->Bool):zX (.a3 (l.map λa=>D.X (p a)))=Z (.X (l.all p)):=by rw[show (l.map λa=>D.X (p a))=(l.map p).map D.X by rw[aY];rfl,TV,rQ];rfl
def Pp{b:Type}(l:List b)(p:b->Bool):HE (.a3 (l.map λa=>D.X (p a)))=Z (.X (l.any p)):=by rw[show (l.map λa=>D.X (p a))=(l.map p).map D.X by rw[aY];rfl,TX,List.any_map];rfl
theorem IQ:∀l:aB,G7 (l.map D.str)=Z (l.map Sum.inr)
 |[]=>rfl
 |x::l=>by rw[aV];unfold G7;rw[IQ l];rfl
theorem TY:∀(l acc:List d?),(acc++l).Nodup->l.foldl W' acc=acc++l
 |[],acc,_=>by rw[cf];rfl
 |k::l,acc,h=>by
  have i:acc.any (λz=>decide (z=k))=δ:=by rw[jd];intro z;obtain⟨y,j,b⟩:=fN.1 z;rw[cu]at h;exact h.2.2 y j k ba (bh b)
  rw[jj,show W' acc k=acc++[k] by unfold W';rw[i];rfl,TY l (acc++[k]) (by simpa using h)];simp
def AA{l:aB}(h:l.Nodup):(l.map (Sum.inr:Str->d?)).Nodup:=by unfold List.Nodup at h ⊢;rw[mB];exact h.imp λhne z=>hne (kh z)
def Hh{l:aB}(h:l.Nodup)(b:l.length<=1000):yz (l.map D.str)=Z (.int l.length):=by unfold yz;rw[IQ];simp only[ae,b,if_true];unfold Bd;rw[TY _ [] (by simpa using AA h)];simp
set_option r "k Str str;W Int int" in def xϑ0(neg:Bool)(a b:ϑ1):cb neg (.ϑ2 a) (.ϑ2 b)=Z (.X (if neg then !decide (a=b)else decide (a=b))):=by
 have e:Gu neg (.ϑ2 a) (.ϑ2 b)=Z (.X (if neg then !decide (V.ϑ2 a=V.ϑ2 b)else decide (V.ϑ2 a=V.ϑ2 b))):=rfl;have e2:decide (V.ϑ2 a=V.ϑ2 b)=decide (a=b):=by
  by_cases h:a=b
  .subst h;simp
  .rw[aP h,aP (λz=>h (by injection z))]
 unfold cb;rw[e,e2]
def vR(b:e ρ=Z (.X γ,ρ1)):wU e e' ρ=e' ρ1:=by unfold wU;rw[b]
def wb{g:Nat->Option (br->Option D)}{m:Str}{c:Nat}{b:aB}{i:br->Option D}(j:e ρ=Z (.obj c b xs,ρ1))(l:g c=Z i)(o:b.contains m=δ)(p:a ρ1=Z (ys,ρ2))(q:i (.obj c b xs::ys)=Z d):vU g m e a ρ=Z (d,ρ2):=by unfold vU;rw[j];simp only[l,o,p,q];rfl
def FD{c:Nat}{g:br->Option (aB×br)}{b:aB}(i:a ρ=Z (ds,ρ1))(j:g ds=Z (b,xs)):wu c g a ρ=Z (.obj c b xs,ρ1):=by unfold wu;rw[i];simp only[j]
def BE(i:ds.length=j)(h:b (L4.w? n ds)=Z (.nx ρ)):dr j n b ds=Z .U:=by unfold dr;rw[aj i,h]
def BF(i:ds.length=j)(h:b (L4.w? n ds)=Z (.rn xs ρ)):dr j n b ds=Z (.a3 xs):=by unfold dr;rw[aj i,h]
theorem AQ:∀{b:List d?} {ds:br} {k:d?} {d:D},b.Nodup->(k,d)∈b.zip ds->xn b ds k=Z d
 |[],_,k,d,_,h=>by simp at h
 |j::b,[],k,d,_,h=>by simp at h
 |j::b,l::ds,k,d,i,h=>by
  unfold xn;rw[fK]at h;rcases aM.1 h with e|h
  .cases e;rw[aj U]
  .rw[dM]at i;rw[ak (λz=>i.1 (by subst z;exact(j8 h).1))];exact AQ i.2 h
theorem Gy:∀{b:List d?} {ds:br} {k:d?},k∉b->xn b ds k=O
 |[],ds,k,_=>by unfold xn;rfl
 |i::b,[],k,_=>by unfold xn;rfl
 |i::b,j::ds,k,h=>by unfold xn;rw[ak (λz=>h (by subst z;exact ba))];exact Gy λz=>h (a9 _ z)
end
end L4
namespace L4
open PySem PySem.Spec PyProof.Rows L2 L3
open PySem.W (nsIn findIn keepIn isFn makesIn fnOf)
def Oj{b:Type}:Nat->(List b->Prop)->Prop
 |0,P=>P []
 |n+1,P=>∀a,Oj n λl=>P (a::l)
theorem HP{b:Type}:∀{n:Nat} {P:List b->Prop},Oj n P->∀l,l.length=n->P l
 |0,P,h,[],_=>h
 |n+1,P,h,a::l,e=>HP (h a) l (nv e)
structure CF(K:aw)(C:Addr)(xs:aB):Prop where
 ci:JF K C
 mks:makesIn K C=γ
 kp:keepIn K (.ref C)=γ
 na:(xs.all λx=>match findIn K (.ref C) x with|some O=>γ|_=>δ)=γ
set_option h true
theorem CF.at{K:aw}(c:CF K C xs)(i:Nat)(h:xs[i]?=Z x):Fs K C/\BD K C x:=#v[c.ci.cl,by
 have e:=aH.1 c.na x (bV h);split at e
 .rename_i a;exact a
 .cases e]
set_option h false
def yM{Q:Nat->Prop}{i:Nat}(h:Q i):∀c,(c==i)=γ->Q c:=λc e=>by rw[beq_iff_eq]at e;subst e;exact h
def Vs{Q:Nat->Prop}{p:Nat->Bool}{i:Nat}(h:∀c,p c=γ->Q c)(a:Q i):∀c,(p c||c==i)=γ->Q c:=λc e=>by
 rw[ip]at e;rcases e with e|e
 .exact h c e
 .exact yM a c e
structure Yw(P:aL)(w:aE)(mg:Str->Option ab)(a5:Heap)(G:Bg):Prop where
 m:∃h:Heap,G.K.In h/\h.Ns bN mg
section
variable{P:aL}{w:aE}{mg:Str->Option ab}{a5:Heap}{G:Bg}{x m qual:Str}{st:Stmt}{N ps:aB}{k c:Nat}{K:aw}
def Yw.g(y:Yw P w mg a5 G)(e:nsIn G.K bN x=Z (Z v)):mg x=Z v:=by obtain⟨h,X,a⟩:=y.m;exact jv X a e
set_option h true
def Yw.n(y:Yw P w mg a5 G){xs:aB}(h:(xs.all λx=>match nsIn G.K bN x with|some O=>γ|_=>δ)=γ)(i:Nat)(hi:xs[i]?=Z x):mg x=O:=by
 obtain⟨d,X,a⟩:=y.m;have e:=aH.1 h x (bV hi);split at e
 .rename_i b;exact W.mg_none_of X a b
 .cases e
set_option h false
def GC(K:aw)(x:Str)(i:Int):Prop:=∃t:Tok,nsIn K bN x=Z (Z (.int i t))
def Yw.ci(y:Yw P w mg a5 G)(q:GC G.K x i):Bj G mg x (.int i):=by obtain⟨h,X,a⟩:=y.m;obtain⟨t,e⟩:=q;exact Rk X a e
def GS(K:aw)(x:Str)(d:aB):Prop:=∃(a:Addr) (o:Obj) (b:Array ab) (n:Nat),nsIn K bN x=Z (Z (.ref a))/\K.lookup a=Z o/\o.cls=.type "tuple" /\ o.data=.seq b n/\b.size<=1000/\CB b.toList d
def Yw.cs(y:Yw P w mg a5 G)(q:GS G.K x b):Bj G mg x (.a7 (b.map D.str)):=by obtain⟨h,X,d⟩:=y.m;obtain⟨a,o,r,n,e,l,f,i,j,p⟩:=q;exact Oi b X d e l f i j p
def GD(K:aw)(x:Str)(st:Stmt):Prop:=∃(f:Addr) (a:cn),nsIn K bN x=Z (Z (.ref f))/\Xi K x x st f a
def GM(K:aw)(C:Addr)(m qual:Str)(st:Stmt):Prop:=∃(f:Addr) (a:cn),findIn K (.ref C) m=Z (Z (.ref f))/\isFn K (.ref f)=γ/\Xi K m qual st f a
def GJ(K:aw)(C:Addr)(qual:Str)(st:Stmt)(b:bF):Prop:=∃(f:Addr) (a:cn) (T:Addr) (o:Obj) (dl:List ab) (n:Nat),findIn K (.ref C) "__init__" = Z (Z (.ref f))/\isFn K (.ref f)=γ/\QI K "__init__" qual st f a T/\K.lookup T=Z o/\o.data=.seq dl.toArray n/\c6 b dl
abbrev Bdy(P:aL)(w:aE)(K:aw)(mg:Str->Option ab)(a5:Heap)(N:aB)(qual:Str)(st:Stmt)(k:Nat)(t:TS):Prop:=∀(f:Addr) (cdv:ab) (A:aR) (b4:List Env) (s:af) (H:Hp) (E:XK),ye k (A.deeper (envOfC qual (v8 st) s.heap.objs.size f cdv))->m? (ID P w K mg a5 N qual st f cdv A b4 s H E) (wM st) t
abbrev ν(x qual:Str)(st:Stmt)(ps:aB):Prop:=Oj ps.length λa=>∀(kV doc pm:ab) (b:Option Addr) (cdv d:ab),bindArgs (fnOf x qual (zl st) (wM st) (v8 st) .none kV doc pm b cdv d) #v[a,[]]=pure (ps.zip a)
theorem ν.ok(b:ν x qual st ps)(F:Xi K x qual st f e):i? K e ps []:=F.p0 λkV doc pm a cdv d i h=>HP b i h kV doc pm a cdv d
theorem gD(y:Yw P w mg a5 G)(q:GD G.K x st)(d:ν x x st ps)(ok:∀f b,Xi G.K x x st f b->zI P w G.K mg a5 x? k f b ps e):G5 P w G.K mg a5 k x ps e:=by obtain⟨f,b,a,F⟩:=q;exact#v[f,b,y.g a,F.kp,d.ok F,ok f b F]
set_option r "F dr eb Ta;N' qt o? aei" in def gϑ0(d:g=ϑ1 h n b)(y:Yw P w mg a5 G)(q:GD G.K x st)(S:yJ N ps (v8 st))(body:Bdy P w G.K mg a5 N x st k (ki G b))(e:ps.length=h:=by rfl)(hN:N.length=n:=by rfl)(a:ν x x st ps:=by (repeat intro _);rfl):G5 P w G.K mg a5 (k+1) x ps (ϑ2 G g):=
 gD y q a λf i F=>ϑ3 d e hN F S (body f)
def gI(h:g=rl c o n b)(y:Yw P w mg a5 G)(C:CF G.K (G.ca c) r)(a:nsIn G.K bN x=Z (Z (.ref (G.ca c))))(q:GM G.K (G.ca c) "__init__" qual st)(S:yJ N (p::ps) (v8 st))(body:Bdy P w G.K mg a5 N qual st k (ki G b))(j:autoParam (ps.length=o) zA0._auto_1)(hN:autoParam (N.length=n) zA0._auto_1)(d:autoParam (ν "__init__" qual st (p::ps)) zA5._auto_1):KW G P w mg a5 (k+1) x c (p::ps) [] g:=by obtain⟨f,e,i,l,F⟩:=q;exact#v[f,e,[],#v[C.mks,i,l,C.kp],y.g a,d.ok F,.nil,aej h j hN F S (body f)]
def MJ(h:c6 d b):b.length=d.length:=by
 induction h with
 |nil=>rfl
 |cons _ _ a=>rw[aU,aU,a]
def Rf(h:c6 f e):∀j,c6 (f.drop j) (e.drop j):=by
 induction h with
 |nil=>intro j;rw[rG,rG];exact .nil
 |cons a b d=>
  intro j;cases j with
  |zero=>exact .cons a b
  |succ j=>exact d j
theorem gJ(B:g=rl c J n b)(y:Yw P w mg a5 G)(C:CF G.K (G.ca c) M)(a:nsIn G.K bN x=Z (Z (.ref (G.ca c))))(q:GJ G.K (G.ca c) qual st u)(S:yJ N (p::ps) (v8 st))(body:Bdy P w G.K mg a5 N qual st k (ki G b))(j:Nat)(H:autoParam (ps.length=J) zA0._auto_1)(hN:autoParam (N.length=n) zA0._auto_1)
  (z:autoParam (Oj u.length λdl=>Oj ((p::ps).length - (u.drop j).length) λd=>∀(T:Addr) (kV doc pm:ab) (h:Option Addr) (cdv t:ab),∃k,bindArgs (fnOf "__init__" qual (zl st) (wM st) (v8 st) (.ref T) kV doc pm h cdv t) #v[d,[]]=seqItems? (.ref T)>>=k/\k (Z dl.toArray)=pure ((p::ps).zip (d++dl.drop j))) zA7._auto_1):KW G P w mg a5 (k+1) x c (p::ps) (u.drop j) g:=by
 obtain⟨f,A,T,o,dl,n,i,I,F,l,e,r⟩:=q;refine#v[f,A,dl.drop j,#v[C.mks,i,I,C.kp],y.g a,F.p0 l e λkV doc pm h cdv t d E=>?_,Rf r j,aaN B H hN F S (body f)];exact HP (HP z dl (MJ r)) d (by rw[E,c8,c8,MJ r]) T kV doc pm h cdv t
end
end L4
namespace L4
open PySem PySem.Spec PyProof.Rows L2 L3
def sm(a b:Str):Bool:=decide (a.cps.toList<=b.cps.toList)
def wQ(a:aB):aB:=a.mergeSort sm
def GA(a b c:Str)(h:sm a b=γ)(d:sm b c=γ):sm a c=γ:=aS (List.le_trans (bh h) (bh d))
def FH(a b:Str):(sm a b||sm b a)=γ:=by
 rw[ip];rcases List.le_total a.cps.toList b.cps.toList with h|h
 .exact .inl (aS h)
 .exact .inr (aS h)
def IR(a b:Str)(h:sm a b=γ)(c:sm b a=γ):a=b:=by have e:=List.le_antisymm (bh h) (bh c);cases a with|mk a=>cases b with|mk b=>cases a;cases b;simp only at e;rw[e]
theorem GB:∀(r:aB) (x:Str),risingS x r=γ->(∀y∈r,sm x y=γ)/\r.Pairwise λa b=>sm a b=γ
 |[],x,_=>#v[λy h=>(cg h).elim,.nil]
 |z::r,x,h=>by
  unfold risingS at h;rw[aW,dH,ltCps_eq]at h;obtain⟨j,l⟩:=h;obtain⟨d,i⟩:=GB r z l;have f:sm x z=γ:=aS (of_decide_eq_false j);refine#v[λy c=>?_,.cons d i];rcases aM.1 c with e|c
  .rw[e];exact f
  .exact GA _ _ _ f (d y c)
def Ol:∀l:aB,sortedS l=γ->l.Pairwise λa b=>sm a b=γ
 |[],_=>.nil
 |x::r,h=>.cons (GB r x h).1 (GB r x h).2
def IS{l:aB}(p:l.Perm c)(h:sortedS l=γ):l=wQ c:=
 lj (λa b s s=>IR a b) (Ol l h) (iV GA FH c) (p.t (dy c sm).symm)
theorem IT:∀{b:aB} {a:List ab},c6 (b.map V.str) a->i8 a b
 |[],a,h=>by cases h;exact .nil
 |x::b,a,h=>by
  cases h with
  |cons r c=>obtain⟨t,rfl⟩:=r;exact .cons x t (IT c)
theorem TZ:∀{a:List ab} {b:aB},i8 a b->c6 (b.map V.str) a
 |_,_,.nil=>.nil
 |_,_,.cons x t h=>.cons #v[t,U] (TZ h)
section
variable{X:Cx}{G:Bg}{pins:cO}{σ:St}{H:Hp}{s:af}
def K6:xH X (.builtin "sorted") (λj H Q=>∃(a:Addr) (c:aB),j=[.ref a]/\e8 X.K H a (c.map V.str)/\c.length<64/\∀p,H p=O->Q (.ref p) (ef H p (.a3 ((wQ c).map V.str)))):=by
 intro pins s σ H j A Q I r h;obtain⟨a,c,rfl,w,m,q⟩:=h;obtain⟨u,rfl,x⟩:=j? r;cases x;obtain⟨b,i,pl,_⟩:=I.list w;have t:(c.map V.str).length=b.length:=i.length;rw[ae]at t;refine sorted_strs pl.isList (IT i) (by omega) λout y a1 d l=>?_;obtain⟨e,o⟩:=sortedAll_at s.heap b out;have f:=IS d l;refine#v[.ref (s.heap.objs.size+1),_,I.laid (t':=s.toks) (λ_ _=>sortedAll_old) (fW _) ?_,U,q _ (I.ew.fresh (fW _))];refine#v[?_,out.toList,e,?_,o]
 .rw[ae,<- f,d.length_eq,bX];omega
 .rw[<-f];exact TZ a1
def CC(f:FE):FA:=λd=>match f d with
 |some (.a3 c,a)=>match B5 c with
  |some b=>if b.length<64 then Z ((wQ b).map D.str,a)else O
  |none=>O
 |_=>O
theorem CD:∀a:aB,a6 G H (a.map D.str) (a.map V.str)
 |[]=>wC
 |x::a=>wJ (Aj x) (CD a)
set_option h true
def MK(h:PE X e (ε (λq H Q=>∃(a:Addr) (c:aB),q=[.ref a]/\e8 G.K H a (c.map V.str)/\c.length<64/\∀p,H p=O->Q (.ref p) (ef H p (.a3 ((wQ c).map V.str)))) (qi G (ax f vP)))):PE X e (tH G (CC f)):=PE.b? h λσ H Q y=>by
 obtain⟨F,A,r,I,B,R,e,k⟩:=y;unfold CC at e;split at e
 .rename_i l C u;cases i:B5 l with
  |none=>simp only[i]at e;cases e
  |some c=>
   simp only[i]at e;split at e
   .rename_i j;cases e;refine#v[F,A,r,[.a3 l],_,R,by unfold ax;rw[u];rfl,λM E t s b rs=>?_];unfold a6 at rs;obtain⟨v,J,rfl,o,m⟩:=rs;unfold a6 at m;subst m;unfold cm at o;obtain⟨a,q,rfl,w,x⟩:=o;have z:=CA x i;subst z;refine#v[a,c,U,e8.of (b.sub _ _ w),j,λp d=>?_];exact k p _ _ _ s (b.ff d _) vI (b.er d) (b.fg d) (b.apart d) (CD _)
   .cases e
 .cases e
set_option h false
def JH(hK:autoParam (X.K=G.K) zA0._auto_1):xH X (.builtin "sorted") (λc H Q=>∃(a:Addr) (b:aB),c=[.ref a]/\e8 G.K H a (b.map V.str)/\b.length<64/\∀p,H p=O->Q (.ref p) (ef H p (.a3 ((wQ b).map V.str)))):=by rw[<-hK];exact K6
theorem EM(k:Str):∀{b:List ab} {a:aB},i8 b a->∀(j:Nat) (c:j<b.length) (d:j<a.length),isStrOf k b[j]=(a[j]==k)
 |_,_,.cons n t _,0,_,_=>rfl
 |_,_,.cons n t r,j+1,c,d=>EM k r j (iZ c) (iZ d)
theorem IU:∀{a:aB} {j:Nat},j<a.idxOf k->∀(b:j<a.length),(a[j]==k)=δ
 |n::r,0,h,_=>by
  by_cases e:n=k
  .subst e;simp at h
  .simpa using e
 |n::r,j+1,h,b=>by
  by_cases e:n=k
  .subst e;simp at h
  .have d:(n==k)=δ:=by simpa using e
   have c:j<r.idxOf k:=by rw[List.idxOf_cons,d]at h;exact iZ h
   exact IU c (iZ b)
end
end L4
namespace L4
open PySem PySem.Spec PySem.Calls PyProof.Rows PySem.W L2 L3
structure Sto(c:Nat->Nat->Bool)(n:Nat):Prop where
 tr:∀i j k,i<n->j<n->k<n->c i j=γ->c j k=γ->c i k=γ
 tot:∀i j,i<n->j<n->i≠j->c i j=δ->c j i=γ
section
variable{X:Cx}{G:Bg}{pins:cO}{σ:St}{H:Hp}{s:af}
def JI(K:aw)(H:Hp)(y:V)(k:aB):Prop:=∃a p q,y=.ref a/\k=[p,q]/\e? K H a [.str p,.str q]
def T2(I:b0 X pins σ H s)(h:JI X.K H y k)(r:dd y u):∃a p q t v,u=.ref a/\k=[p,q]/\fZ s.heap a #[.str p t,.str q v]:=by
 obtain⟨a,p,q,rfl,rfl,b⟩:=h;cases r;obtain⟨c,i,j,_⟩:=I.tuple b;cases i with
 |cons d e=>
  obtain⟨t,rfl⟩:=d;cases e with
  |cons q3 f=>obtain⟨v,rfl⟩:=q3;cases f;exact#v[a,p,q,t,v,U,U,j]
end
section
variable{prog:aL}{w:aE}{A:aR}{s:af}
def It2(h:Heap)(b:List ab)(c:List aB):Prop:=∀i,i<b.length->∃a p q t v,b.getD i Value.none=.ref a/\c.getD i []=[p,q]/\fZ h a #[.str p t,.str q v]/\b[i]?=Z (.ref a)
def Rg(item:It2 s.heap b H)(G:0<b.length)(hC:C (tuples' γ) s):ao (model prog w) A (keyKind' b.toArray) C (λ_ _=>False) s:=by
 have tX:∀(l:List ab),(∀v∈l,∃i,i<b.length/\b[i]?=Z v)->∃fs,KatTups s.heap l fs/\fs.length=l.length/\∀f∈fs,∃(x:Str) (t:Tok),f=.str x t:=λl=>by
  induction l with
  |nil=>exact λ_=>#v[[],KatTups.nil,U,λf hf=>by cases hf]
  |cons v l z=>
   intro c;obtain⟨fs,h,m,j⟩:=z λw y=>c w (.tail _ y);obtain⟨i,d,u⟩:=c v (.head _);obtain⟨a,p,q,t,w,_,_,⟨o,B,E,n,F⟩,r⟩:=item i d;rw[u]at r;cases r;refine#v[.str p t::fs,KatTups.cons B E F (by simp) h,by rw[aU,aU,m],λf hf=>?_];rcases aM.1 hf with rfl|hf
   .exact#v[p,t,U]
   .exact j f hf
 obtain⟨fs,h,m,j⟩:=tX b λv c=>by obtain⟨i,d,e⟩:=lE.1 c;exact#v[i,d,by rw[aO d,e]]
 refine kat_kind (T:=.type "str") h (by omega) (λv c=>?_) (by decide) ?_
 .obtain⟨x,t,rfl⟩:=j v c;exact .now
 .rw[show (Value.type "str" != Value.type "tuple")=γ by decide];exact hC
def T4(item:It2 s.heap a e)(hij:i<a.length/\j<a.length)(hC:C (JG (e.getD i []) (e.getD j [])) s):kC prog w A (tuples' γ) a i j C s:=by
 obtain⟨a1,b,c,f,l,q,x,⟨F,t,c1,B,o⟩,_⟩:=item i hij.1;obtain⟨z,p2,d,h,m,r,y,⟨G,u,c2,E,p⟩,_⟩:=item j hij.2;unfold kC;rw[q,r];rw[x,y]at hC;refine kat_lt t o u p ?_;show KatLex _ _ _ _ _ _ [(Value.str b f,Value.str p2 h),(Value.str c l,Value.str d m)] 0 _;refine kat_cons (l3 b f p2 h _ _ _ _ ?_);unfold JG at hC;by_cases hpp:b=p2
 .subst hpp;rw[aj U]at hC;rw[beq_self_eq_true];refine kat_yes (kat_cons (l3 c l d m _ _ _ _ ?_));unfold JG at hC;by_cases hqq:c=d
  .subst hqq;rw[aj U]at hC;rw[beq_self_eq_true];exact kat_yes (kat_nil hC)
  .rw[ak hqq]at hC;rw[beq_false_of_ne hqq];exact kat_no (kat_one _ _ (u7 hC))
 .rw[ak hpp]at hC;rw[beq_false_of_ne hpp];exact kat_no (oneLt_str hC)
end
section
variable{X:Cx}{G:Bg}{pins:cO}{σ:St}{H:Hp}{s:af}
def K7(hu:X.A.units+64<cLine):xH X (.builtin "sorted") (λxs H Q=>∃(a:Addr) (d:bF) (ks:List aB),xs=[.ref a]/\e8 X.K H a d/\0<d.length/\d.length<64/\ks.length=d.length/\(∀(i:Nat) (y:V) (k:aB),d[i]?=Z y->ks[i]?=Z k->JI X.K H y k)/\
  ∀p,H p=O->Q (.ref p) (ef H p (.a3 ((Oh (λi j=>JG (ks.getD i []) (ks.getD j [])) d.length).map λi=>d.getD i V.U)))):=by
 intro pins s σ H xs us Q I r h;obtain⟨a,d,ks,rfl,Y,h1,P,hkl,W,q⟩:=h;obtain⟨u,rfl,w⟩:=j? r;cases w;obtain⟨f,m,T,ob,nn,hT,F,J,M⟩:=seq_val I (.inl Y);have R:d.length=f.length:=m.length;have item:∀{h':Heap},(∀b o,s.heap.get? b=Z o->h'.get? b=Z o)->It2 h' f ks:=λ{h'} l i hi=>by
  have E:b0 X pins σ H { s with heap:=h',toks:=s.toks }:=I.fh l;have B:i<d.length:=by omega
  have z:i<ks.length:=by omega
  obtain⟨u,e,w⟩:=m.get (aO B);obtain⟨a,p,q,t,v,rfl,N,ti⟩:=T2 E (W i _ _ (aO B) (aO z)) w;refine#v[a,p,q,t,v,?_,?_,ti,e]
  .rw[bQ,e];rfl
  .rw[bQ,aO z];exact N
 refine Og (κ:=tuples' γ) (c:=λi j=>JG (ks.getD i []) (ks.getD j [])) hT F J M (by omega) (by omega) (λh' C l hC=>Rg (s:={ s with heap:=h' }) (item l) (by omega) hC) (λh' i j C l hij hC=>T4 (s:={ s with heap:=h' }) (item l) hij hC) λg h' e k1 k2 S=>?_
 .have x:b0 X pins σ H { s with heap:=g,toks:=s.toks }:=I.fh k1;refine#v[.ref g.objs.size,_,x.laid (t':=s.toks) k2 (aI _) ?_,U,q _ (x.ew.fresh (aI _))];have hn:0<d.length:=h1;refine#v[?_,Gw _ f,e,?_,S]
  .rw[ae,(Gx _ hn).length_eq,bL,bX];omega
  .unfold Gw;rw[<-R];exact J7 m _ λi hi=>K1 _ hn i hi
end
def Rh:D->Option aB
 |.a7 [.str p,.str q]=>Z [p,q]
 |_=>O
def zH:br->Option (List aB)
 |[]=>Z []
 |d::a=>match Rh d,zH a with
  |some k,Z b=>Z (k::b)
  |_,_=>O
def EN(a:br):Option br:=match zH a with
 |some b=>if 0<a.length/\a.length<64 then Z ((Oh (λi j=>JG (b.getD i []) (b.getD j [])) a.length).map λi=>a.getD i .U)else O
 |none=>O
def GE(f:FE):FA:=λd=>match f d with
 |some (.a3 b,a)=>match EN b with
  |some c=>Z (c,a)
  |none=>O
 |_=>O
section
variable{X:Cx}{G:Bg}{H:Hp}
set_option h true
def ML(r:cm G H d v)(e:Rh d=Z k):JI G.K H v k:=by
 unfold Rh at e;split at e
 .rename_i p q;cases e;unfold cm at r;obtain⟨a,t,rfl,i,b⟩:=r;unfold a6 at b;obtain⟨m,j,rfl,c,f⟩:=b;unfold a6 at f;obtain⟨o,l,rfl,q3,h⟩:=f;unfold a6 at h;unfold cm at c q3;subst h c q3;exact#v[a,p,q,U,U,i]
 .cases e
set_option h false
theorem J9:∀{a:br} {b:List aB},zH a=Z b->b.length=a.length
 |[],b,e=>by cases e;rfl
 |d::a,b,e=>by
  unfold zH at e;cases c:Rh d with
  |none=>rw[c]at e;cases e
  |some k=>
   cases f:zH a with
   |none=>rw[c,f]at e;cases e
   |some h=>rw[c,f]at e;cases e;rw[aU,aU,J9 f]
theorem Ka:∀{a:br} {f:List aB} {h:bF},a6 G H a h->zH a=Z f->∀(i:Nat) (y:V) (k:aB),h[i]?=Z y->f[i]?=Z k->JI G.K H y k
 |[],f,h,r,e,i,y,k,l,c=>by cases e;cases c
 |d::a,f,h,r,e,i,y,k,l,c=>by
  unfold zH at e;cases b:Rh d with
  |none=>rw[b]at e;cases e
  |some q=>
   cases j:zH a with
   |none=>rw[b,j]at e;cases e
   |some m=>
    rw[b,j]at e;cases e;unfold a6 at r;obtain⟨v,t,rfl,o,p⟩:=r;cases i with
    |zero=>cases l;cases c;exact ML o b
    |succ i=>exact Ka p j i y k l c
theorem JI.mono{K:aw}(s:vX b c)(h:JI K b y k):JI K c y k:=by obtain⟨a,p,q,d,e,f⟩:=h;exact#v[a,p,q,d,e,e?.mono s f]
set_option h true
def MM(h:PE X e (ε (λu H Q=>∃(a:Addr) (c:bF) (l:List aB),u=[.ref a]/\e8 G.K H a c/\0<c.length/\c.length<64/\l.length=c.length/\(∀(i:Nat) (y:V) (k:aB),c[i]?=Z y->l[i]?=Z k->JI G.K H y k)/\
  ∀p,H p=O->Q (.ref p) (ef H p (.a3 ((Oh (λi j=>JG (l.getD i []) (l.getD j [])) c.length).map λi=>c.getD i V.U)))) (qi G (ax f vP)))):PE X e (tH G (GE f)):=PE.b? h λσ H Q t=>by
 obtain⟨F,W,A,es,Y,R,e,k⟩:=t;unfold GE at e;split at e
 .rename_i q ρ1 C;cases b:EN q with
  |none=>simp only[b]at e;cases e
  |some E=>
   simp only[b]at e;cases e;unfold EN at b;cases m:zH q with
   |none=>simp only[m]at b;cases b
   |some l=>
    simp only[m]at b;split at b
    .rename_i t;obtain⟨N,J⟩:=t;cases b;refine#v[F,W,A,[.a3 q],_,R,by unfold ax;rw[C];rfl,λc H1 B s d rs=>?_];unfold a6 at rs;obtain⟨v,r0,rfl,z,x⟩:=rs;unfold a6 at x;subst x;unfold cm at z;obtain⟨a,u,rfl,I,r⟩:=z;have w:=vH r;refine#v[a,u,l,U,e8.of (d.sub _ _ I),by omega,by omega,by rw[J9 m,w],λi y P S T=>JI.mono d.sub (Ka r m i y P S T),λp o=>?_];refine k p _ _ _ s (d.ff o _) vI (d.er o) (d.fg o) (d.apart o) ?_;rw[<-w];exact J8 r _ λi M=>K1 _ N i M
    .cases b
 .cases e
set_option h false
def JJ(d:X.A.units+64<cLine)(hK:autoParam (X.K=G.K) zA0._auto_1):xH X (.builtin "sorted") (λe H Q=>∃(a:Addr) (b:bF) (c:List aB),e=[.ref a]/\e8 G.K H a b/\0<b.length/\b.length<64/\c.length=b.length/\(∀(i:Nat) (y:V) (k:aB),b[i]?=Z y->c[i]?=Z k->JI G.K H y k)/\
  ∀p,H p=O->Q (.ref p) (ef H p (.a3 ((Oh (λi j=>JG (c.getD i []) (c.getD j [])) b.length).map λi=>b.getD i V.U)))):=by rw[<-hK];exact K7 d
end
end L4
namespace L4
open PySem PySem.Spec PyProof.Rows L2 L3
structure Bz where
 P:aL
 w:aE
 mg:Str->Option ab
 a5:Heap
 G:Bg
structure ZE(X:Cx)(B:Bz)(e:Expr)(f:FE):Prop where p:PE X e (tF B.G f)
structure ZN(X:Cx)(B:Bz)(e:Expr)(f:FA):Prop where p:PE X e (tH B.G f)
structure ZT(X:Cx)(B:Bz)(e:Expr)(f:FT):Prop where p:PT X e (l0 B.G f)
structure ZW(X:Cx)(B:Bz)(e:Expr)(f:FT):Prop where p:PW X e (l0 B.G f)
structure ZF(X:Cx)(B:Bz)(e:List Expr)(f:FT):Prop where p:PIf X e (l0 B.G f)
structure ZA(X:Cx)(B:Bz)(e:List Expr)(f:FA):Prop where p:PA X e (qi B.G f)
structure ZS(X:Cx)(B:Bz)(e:Stmt)(f:FS):Prop where p:PS X e (ki B.G f)
structure ZB(X:Cx)(B:Bz)(e:List Stmt)(f:FS):Prop where p:m? X e (ki B.G f)
structure ZI(X:Cx)(B:Bz)(tg e:Expr)(f:FA):Prop where p:PI X tg e (L' B.G f)
structure ZO(X:Cx)(B:Bz)(e:Option Expr)(f:FO):Prop where p:PO X e (tFO B.G f)
structure ZG(X:Cx)(B:Bz)(e:Expr)(n:Nat)(f:FG):Prop where p:PG X e (tFG B.G n f)
structure ZH(X:Cx)(B:Bz)(e:List Expr)(n:Nat)(f:br->bc->Option bc):Prop where p:G' X e (SK B.G n f)
structure ZK(X:Cx)(e:Option Expr)(i:Option Int):Prop where p:PO X e (tO i)
structure ZP(X:Cx)(B:Bz)(pos:Pos)(ks:List (Option Expr))(vs:List Expr)(l:List (Str×FE)):Prop where p:PPs X pos ks vs (TM B.G l)
abbrev Gz(X:Cx)(x:Str):Prop:=X.a4.kindOf x=Z .globalImplicit
abbrev Dz(x:Str):Prop:=(x==("__debug__" : Str))=δ
abbrev Nz(x:Str):Prop:=(decide (x≠"__name__")&&!(x==("__debug__" : Str)))=γ
abbrev Sz(X:Cx)(e:Expr)(a:List Expr):Prop:=aF (e::a) X.a4=(δ,eval e X.a4)::aF a X.a4
abbrev S1(X:Cx)(e:Expr):Prop:=aF [e] X.a4=[(δ,eval e X.a4)]
abbrev Lz(X:Cx)(pos:Pos)(a:List Expr):Prop:=(bO pos (aF a X.a4)).any (·.1)=δ
abbrev Wz(X:Cx)(e o:Expr)(pos:Pos):Prop:=dQ e (Z o) pos.line X.a4=pure δ
abbrev Az(X:Cx)(o:Expr)(m:Str):Prop:=fA o m X.a4 (eval o X.a4)=eval o X.a4
abbrev Ez(p pos:Pos):Prop:=(p.endLine==pos.line)=γ
abbrev Iz(e:Expr):Prop:=(λo i=>subscripted e δ o i)=λo i=>operate [o,i] (getItem o i)
abbrev Fz(X:Cx)(e:Expr):Prop:=(λx=>jb e X.a4 x)=λx=>pure x
class Cz(X:Cx)(B:outParam Bz)(k:outParam Nat):Prop where
 P:X.prog=B.P
 w:X.w=B.w
 K:X.K=B.G.K
 mg:X.mg=B.mg
 b:X.a5=B.a5
 c:X.mi=γ
 r:ye k X.A
class Yb(B:Bz):Prop where y:Yw B.P B.w B.mg B.a5 B.G
class Df(B:Bz)(j:outParam Nat)(x:Str)(sp:Sp):Prop where p:∃ps,G5 B.P B.w B.G.K B.mg B.a5 j x ps sp
class Kf(B:Bz)(j:outParam Nat)(x:Str)(c:Nat)(g:br->Option (aB×br))(dds:br):Prop where
 p:∃ps,KW B.G B.P B.w B.mg B.a5 j x c ps (dds.map vD) g
 f:dds.all yC=γ
class Mf(B:Bz)(j:outParam Nat)(m:Str)(g:Nat->Option (br->Option D)):Prop where p:∀c h,g c=Z h->Ct B.G B.P B.w B.mg B.a5 j m c h
class Ff(B:Bz)(ok:Nat->Bool)(f:Str):Prop where p:∀c,ok c=γ->Fs B.G.K (B.G.ca c)/\BD B.G.K (B.G.ca c) f
class Af(B:Bz)(c:Nat)(xs:outParam aB):Prop where p:CF B.G.K (B.G.ca c) xs
class Nb(B:Bz)(x:Str):Prop where p:B.mg x=O
class Co(B:Bz)(x:Str)(d:D):Prop where p:Bj B.G B.mg x d
class Ic(B:Bz)(x:Str)(t:Ty->Option Bool):Prop where p:∃c,N6 B.G c t/\B.mg x=Z (.ref (B.G.ca c))
class Ij(B:Bz)(n:Nat):Prop where p:∀j k,j<n->k<n->B.G.ca j=B.G.ca k->j=k
class ζ(op:Operator)(g:D->D->Option D):Prop where p:∀(X:Cx) (G:Bg),∃r,gi X (cK op) r/\i1 G r g
set_option r "1 Mod vZ ZR aaz;2 FloorDiv wY VU aaA;3 Mult ym ZQ aay;4 Sub Ep ZM aax;5 Pow SX ZU aaB;6 Add wF ZL aaw;7 Add DH NH WT;8 Mult II NV Xj" in instance inϑ0:ζ .ϑ1 ϑ2:=#v[λt t=>#v[_,ϑ3,ϑ4]]
class y?(op:CmpOp)(g:D->D->Option D):Prop where p:∀(X:Cx) (G:Bg),X.K=G.K->X.A.units+64<cLine->∃r,gi X (bD op) r/\i1 G r g
set_option r "9 Eq δ G d;10 NotEq γ H e" in instance inϑ0:y? .ϑ1 (cb ϑ2):=#v[λt t h u=>#v[_,aaϑ3 u h,aeϑ4]]
set_option r "1 In δ aaI;2 NotIn γ QQ" in instance in1ϑ0:y? .ϑ1 (j0 ϑ2):=#v[λt t h t=>#v[_,ϑ3 h,YC]]
set_option r "13 Is zF Z0 aaD;14 IsNot yn VW WU;16 Lt N0 ady ad9;17 LtE zW adz aea;18 Gt DG adA aeb;19 GtE dGeI adB aec;20 LtE SY QH aaC" in instance inϑ0:y? .ϑ1 ϑ2:=#v[λt t t t=>#v[_,ϑ3,ϑ4]]
class B1(x:Str)(g:D->Option D):Prop where p:∀(X:Cx) (G:Bg),X.K=G.K->X.mi=γ->∃(id:String) (r:bF->Hp->VK->Prop),xH X (.builtin id) r/\J2 G r g/\ee x=Z (.builtin id)
instance in21:B1 "len" w5:=#v[λt t h t=>#v[_,_,QS h,yT,q8]]
set_option r "2 ll zX T K;3 ny HE 3 O" in instance in2ϑ0:B1 "aϑ1" ϑ2:=#v[λt t h c=>#v[_,_,Qϑ3 c h,aaϑ4,boot_aϑ1]]
class KtC(x:Str)(T:outParam String):Prop where p:(∀(X:Cx) (G:Bg) y b,xy T y=Z b->cM X.K (y.val G) (.type T)=Z b)/\ee x=Z (.type T)
instance in24:KtC "str" "str" := #v[λt t=>W0,Pv.boot_str]
instance in25:KtC "int" "int" := #v[λt t=>Xg,sk]
instance in26:KtC "bool" "bool" := #v[λt t=>TL,Pv.boot_bool]
instance in27:KtC "list" "list" := #v[λt t=>Te,rR]
instance in28:KtC "tuple" "tuple" := #v[λt t=>S',rH]
theorem YH:∀{dds:br},dds.all yC=γ->a6 G H dds (dds.map vD)
 |[],_=>wC
 |d::a,h=>by rw[gG,aW]at h;exact wJ (Fo h.1 H) (YH h.2)
def u2(X:Cx)(i:Nat)(x:Str):Bool:=decide (X.N[i]?=Z x)&&(match X.a4.scope.names.lookup x with|some .local=>γ|some .cell=>γ|some .free=>γ|_=>δ)&&!(x==("__debug__" : Str))&&!(x==("__classdict__" : Str))
def tm(X:Cx)(i:Nat)(x:Str):Bool:=decide X.N.Nodup&&decide (X.N[i]?=Z x)&&(match X.a4.scope.names.lookup x with|some .local=>γ|some .cell=>X.fn x|_=>δ)
section
variable{X:Cx}{B:Bz}{k j i n c0:Nat}{x m:Str}{e e' o tg it:Expr}{es:List Expr}{p p2 p3 pos apos:Pos}{f f' f2:FE}{a:FA}{g:D->D->Option D}
set_option h true
def Kx(h:u2 X i x=γ):PE X (.Name x p) (EE i):=by
 unfold u2 at h;simp only[aW,bK,dH]at h;obtain⟨⟨⟨c,b⟩,d⟩,l⟩:=h;refine pv i c ?_ d l;split at b
 .rename_i e;exact .inl e
 .rename_i e;exact .inr (.inl e)
 .rename_i e;exact .inr (.inr e)
 .cases b
set_option h false
set_option r "aeq E cV NX;aa1 E nj ad7;Xm N Fm WQ" in def ϑ0(h:u2 X i x=γ):Zϑ1 X B (.Name x p) (ϑ2 i):=#v[ϑ3 (Kx h)]
set_option h true
def K8(h:tm X i x=γ):X.N.Nodup/\X.N[i]?=Z x/\L2.Loc X.a4.scope x/\(X.fn x=γ\/X.a4.scope.names.lookup x=Z .local):=by
 unfold tm at h;simp only[aW,bK]at h;obtain⟨⟨c,d⟩,b⟩:=h;split at b
 .rename_i e;exact#v[c,d,.inl e,.inr e]
 .rename_i e;exact#v[c,d,.inr e,.inl b]
 .cases b
set_option h false
def pgI(h:tm X i x=γ):PG X (.Name x p) (Be i):=by obtain⟨b,c,d,l⟩:=K8 h;exact OP b c d l
def aa2(h:tm X i x=γ)(b:Nat.blt i n=γ):ZG X B (.Name x p) n (gN i):=#v[SL n (pgI h) (Nat.blt_eq.mp b)]
def stW(h:tm X i x=γ)(q:PE X e t)(r:Wz X e (.Name x p) pos):PS X (.Assign [.Name x p] e pos) (E7 t (Be i)):=by obtain⟨b,c,d,l⟩:=K8 h;exact Zw b c d q r l
set_option r "3 E f vN O6;4 N a xO Ml" in def aaϑ0(h:tm X i x=γ)(b:Zϑ1 X B e ϑ2)(c:Wz X e (.Name x p) pos):ZS X B (.Assign [.Name x p] e pos) (ϑ3 i ϑ2):=#v[ϑ4 (stW h b.p c)]
def aa5(h:tm X i x=γ)(b:Wz X (.Dict [] [] p2) (.Name x p) pos):ZS X B (.Assign [.Name x p] (.Dict [] [] p2) pos) (IH i):=#v[Tj (stW h L8 b)]
def aa6 [b:ζ q g](h:ZE X B e f)(l:ZE X B e' f'):ZE X B (.BinOp e q e' pos) (c2 g f f'):=by obtain⟨r,c,d⟩:=b.p X B.G;exact#v[adU c d h.p l.p]
def aa7 [C:Cz X B k](b:ZE X B e f)(c:ZE X B e' f')(d:Iz e'):ZE X B (.Subscript e e' pos) (c2 b3 f f'):=#v[adV (ix_X C.K) aef b.p c.p λo i=>congrFun (congrFun d o) i]
def aa8 [C:Cz X B k](b:ZE X B e f)(c:ZE X B e' f')(d:Iz e'):ZE X B (.Subscript e e' pos) (c2 Er f f'):=#v[W5 (Ma C.r) b.p c.p λo i=>congrFun (congrFun d o) i]
section
variable{op op':CmpOp}{g':D->D->Option D}
def aa9 [b:y? op g][C:Cz X B k](h:ZE X B e f)(l:ZE X B e' f')(q:gE op e'=δ):ZE X B (.Compare e [op] [e'] pos) (c2 g f f'):=by obtain⟨r,c,d⟩:=b.p X B.G C.K C.r.units;exact#v[aam c d h.p l.p q]
def aba [b:y? op g][C:Cz X B k](h:ZE X B e f)(l:ZE X B e' f')(q:gE op e'=δ):ZT X B (.Compare e [op] [e'] pos) (cT (c2 g f f')):=by obtain⟨r,c,d⟩:=b.p X B.G C.K C.r.units;exact#v[Wm c d h.p l.p q]
def abb [b:y? op g][c:y? op' g'][C:Cz X B k](t:ZE X B e f)(u:ZE X B e' f')(w:ZE X B o f2)(y:lastMarks [op,op'] [e',o]=δ):ZE X B (.Compare e [op,op'] [e',o] pos) (yU g g' f f' f2):=by obtain⟨r,d,h⟩:=b.p X B.G C.K C.r.units;obtain⟨z,l,q⟩:=c.p X B.G C.K C.r.units;exact#v[S8 d l h q t.p u.p w.p y]
def abc [b:y? op g][c:y? op' g'][C:Cz X B k](t:ZE X B e f)(u:ZE X B e' f')(w:ZE X B o f2)(y:lastMarks [op,op'] [e',o]=δ):ZT X B (.Compare e [op,op'] [e',o] pos) (cT (yU g g' f f' f2)):=by obtain⟨r,d,h⟩:=b.p X B.G C.K C.r.units;obtain⟨z,l,q⟩:=c.p X B.G C.K C.r.units;exact#v[QW d l h q t.p u.p w.p y]
end
def abd(h:ZE X B e f)(b:(λwhole=>isTrue e X.a4 whole)=λwhole=>(do let v<-whole;standAt e.pos;holding [v] (truthy v))):ZT X B e (cT f):=#v[Wn h.p λw=>congrFun b w]
set_option r "e Or G SE;f And I Wr" in def abϑ0(d:ZT X B e b)(h:ZW X B (.BoolOp .ϑ1 (e'::es) pos) c):ZT X B (.BoolOp .ϑ1 (e::e'::es) pos) (xϑ2 b c):=#v[PW.pt (ϑ3 d.p h.p)]
def abg [C:Cz X B k][Q:Co B x d](b:Gz X x)(hd:Dz x):ZE X B (.Name x pos) (cC d):=#v[Tc (C.mg▸Q.p) b hd]
def abh [C:Cz X B k][Q:Ff B ok m](c:ZE X B e f)(b:Az X e m):ZE X B (.Attribute e m pos) (c1 (vF ok m) f):=#v[SO c.p (C.K▸Q.p) b]
section
variable(hg:Gz X x)(hd:Dz x)(hs:Sz X e es)(hl:Lz X pos es)
include hg hd
theorem dz [C:Cz X B k][Q:Df B j x d]:∃c,G5 X.prog X.w X.K X.mg X.a5 j x c d:=by rw[C.P,C.w,C.K,C.mg,C.b];exact Q.p
theorem abi{g:br->Option br}[C:Cz X B k][Q:Df B j x (o? B.G g)](b:gW j k=γ):ZN X B (.Call (.Name x p) [] [] pos) (wx g vP):=by obtain⟨c,q⟩:=dz hg hd (Q:=Q);exact#v[S9 q (C.r.mono (gR.mp b)) hg hd]
include hs hl
set_option r "j D eb E vx aaM;k br o? N wx WY" in theorem abϑ0{g:br->Option ϑ1}[C:Cz X B k][Q:Df B j x (ϑ2 B.G g)](b:ZA X B (e::es) a)(c:gW j k=γ):Zϑ3 X B (.Call (.Name x p) (e::es) [] pos) (ϑ4 g a):=by obtain⟨d,q⟩:=dz hg hd (Q:=Q);exact#v[ϑ5 q (C.r.mono (gR.mp c)) b.p hg hd hs hl]
theorem abl{g:br->Option (aB×br)}{dds:br}[C:Cz X B k][Q:Kf B j x c0 g dds](d:ZA X B (e::es) a)(h:gW (j+1) k=γ):ZE X B (.Call (.Name x p) (e::es) [] pos) (wu c0 (λc=>g (c++dds)) a):=by obtain⟨l,q⟩:=Q.p;exact#v[WZ (by rw[C.P,C.w,C.mg,C.b];exact q) (λH=>YH Q.f) (C.r.mono (gR.mp h)) d.p C.K hg hd hs hl]
end
def mz{g:Nat->Option (br->Option D)}[C:Cz X B k][Q:Mf B j m g]:∀c h,g c=Z h->Ct B.G X.prog X.w X.mg X.a5 j m c h:=by rw[C.P,C.w,C.mg,C.b];exact Q.p
def abm{g:Nat->Option (br->Option D)}{pl:Sem Bool}[C:Cz X B k][Q:Mf B j m g](d:ZE X B o f)(c:gW j k=γ)
  (h:eval (.Call (.Attribute o m apos) [] [] pos) X.a4=(do
   let b<-eval o X.a4
   standAt apos.atName
   let (f,first)<-holding [b] (getMethod b m pl)
   callWith pos f first (bO pos (aF [] X.a4)) (backToKw pos (dP [] X.a4)))):ZE X B (.Call (.Attribute o m apos) [] [] pos) (vU g m f vP):=#v[N2 mz (C.r.mono (gR.mp c)) d.p C.K h]
def abn{g:Nat->Option (br->Option D)}{pl:Sem Bool}[C:Cz X B k][Q:Mf B j m g](l:ZE X B o f)(c:ZA X B (e::es) a)(d:gW j k=γ)(q:Sz X e es)(h:Lz X pos es)
  (t:eval (.Call (.Attribute o m apos) (e::es) [] pos) X.a4=(do
   let b<-eval o X.a4
   standAt apos.atName
   let (f,first)<-holding [b] (getMethod b m pl)
   callWith pos f first (bO pos (aF (e::es) X.a4)) (backToKw pos (dP [] X.a4)))):ZE X B (.Call (.Attribute o m apos) (e::es) [] pos) (vU g m f a):=#v[QX mz (C.r.mono (gR.mp d)) l.p c.p C.K q h t]
section
variable(hg:Gz X x)(hd:Nz x)(hs:S1 X e)
include hg hd hs
theorem cbI{id:String}[C:Cz X B k][N:Nb B x](c:xH X (.builtin id) r)(d:ee x=Z (.builtin id))(b:PA X [e] t):PE X (.Call (.Name x p) [e] [] pos) (ε r t):=by simp only[aW,bK,dH]at hd;exact Fb c hg (C.mg▸N.p) d b hd.1 hd.2 hs U
theorem ctI [C:Cz X B k][N:Nb B x](c:xH X (.type T) r)(d:ee x=Z (.type T))(b:PA X [e] t):PE X (.Call (.Name x p) [e] [] pos) (ε r t):=by simp only[aW,bK,dH]at hd;exact Qy c hg (C.mg▸N.p) d b hd.1 hd.2 hs U
theorem abo{g:D->Option D}[Q:B1 x g][C:Cz X B k][N:Nb B x](l:ZE X B e f):ZE X B (.Call (.Name x p) [e] [] pos) (c1 g f):=by obtain⟨id,r,b,d,h⟩:=Q.p X B.G C.K C.c;exact#v[YD d (cbI hg hd hs b h (xE l.p yK hs))]
end
section
variable(hs:S1 X e)
include hs
set_option r "p list N f 5 N1 R;q tuple E p 6 QU H" in theorem abϑ0 [C:Cz X B k][N:Nb B "ϑ1"](c:Gz X "ϑ1")(b:ZE X B e f):Zϑ2 X B (.Call (.Name "ϑ1" p) [e] [] pos) (zϑ3 f):=#v[Sϑ4 (ctI c (by decide) hs (ϑ5 C.K) rϑ6 (xE b.p yK hs))]
theorem abr [C:Cz X B k][N:Nb B "sorted"](c:Gz X "sorted")(b:ZE X B e f):ZN X B (.Call (.Name "sorted" p) [e] [] pos) (GE f):=#v[MM (cbI c (by decide) hs (JJ C.r.units C.K) nG (xE b.p yK hs))]
theorem abt [C:Cz X B k][N:Nb B "sorted"](c:Gz X "sorted")(b:ZE X B e f):ZN X B (.Call (.Name "sorted" p) [e] [] pos) (CC f):=#v[MK (cbI c (by decide) hs (JH C.K) nG (xE b.p yK hs))]
theorem abu [C:Cz X B k][N:Nb B "range"](c:Gz X "range")(b:ZE X B e f):ZI X B tg (.Call (.Name "range" p) [e] [] pos) (r? f):=#v[NZ (Qq c (C.mg▸N.p) (xE b.p yK hs) hs)]
end
section
variable(hi:Gz X "isinstance")(hg:Gz X x)(hs:aF [e,.Name x p2] X.a4=[(δ,eval e X.a4),(δ,eval (.Name x p2) X.a4)])(hs':S1 X (.Name x p2))
include hi hg hs hs'
theorem abv [Q:KtC x T][C:Cz X B k][N:Nb B "isinstance"][c:Nb B x](d:ZE X B e f)(hd:Nz x):ZE X B (.Call (.Name "isinstance" p) [e,.Name x p2] [] pos) (c1 (wX (xy T)) f):=by
 simp only[aW,bK,dH]at hd;refine#v[Pc (Fb (J3 (.b T) (Q.p.1 X B.G) Td C.K) hi (C.mg▸N.p) mN (yx d.p (yx (VN hg (C.mg▸c.p) Q.p.2 U hd.1 hd.2) AJ ?_) ?_) (by decide) (by decide) ?_ ?_)]
 .exact hs'
 .rw[hs,hs']
 .rw[hs,hs']
 .rw[hs'];rfl
theorem abw [Q:Ic B x t][C:Cz X B k][N:Nb B "isinstance"](b:ZE X B e f)(hd:Dz x):ZE X B (.Call (.Name "isinstance" p) [e,.Name x p2] [] pos) (c1 (wX t) f):=by
 obtain⟨c,d,h⟩:=Q.p;refine#v[Pc (Fb (N7 d C.K) hi (C.mg▸N.p) mN (yx b.p (yx (HJ hg (C.mg▸h) U hd) AJ ?_) ?_) (by decide) (by decide) ?_ ?_)]
 .exact hs'
 .rw[hs,hs']
 .rw[hs,hs']
 .rw[hs'];rfl
end
section
variable(hb:Az X o m)(hl:Ez apos pos)(hs:S1 X e)
include hb hl hs
theorem bmI{id:String}[C:Cz X B k](h:ku T)(slot:Slot T m id)(hty:typeOf (.builtin id)=pure (.type "method_descriptor"))(c:MtR X id r)(d:PE X o to)(b:PA X [e] t):PE X (.Call (.Attribute o m apos) [e] [] pos) (tBM B.G.K T r to t):=
 NW B.G.K h slot hty c d b hb (by rw[hs];rfl) hl hs U C.K
end
section
variable(h:u2 X i x=γ)(hb:Az X (.Name x p) m)(hl:Ez apos pos)(hs:S1 X e)
include h hb hl hs
theorem abx [C:Cz X B k](c:m="append")(b:ZE X B e f):ZE X B (.Call (.Attribute (.Name x p) m apos) [e] [] pos) (zT i f):=by subst c;exact#v[QN (bmI hb hl hs je l4 pS Gi (Kx h) (xE b.p yK hs))]
theorem aby [C:Cz X B k](c:m="extend")(b:ZE X B e f):ZE X B (.Call (.Attribute (.Name x p) m apos) [e] [] pos) (Es i f):=by subst c;exact#v[N9 (bmI hb hl hs je jR pT (C.K▸N8) (Kx h) (yx b.p AJ hs))]
end
def abz [C:Cz X B k](h:ZE X B e f)(l:ZE X B e' f')(c:Az X e "get")(d:Ez apos pos)(b:S1 X e'):ZE X B (.Call (.Attribute e "get" apos) [e'] [] pos) (c2 Dp f f'):=#v[Ti (Ma C.r) h.p l.p #v[c,by rw[b];rfl,d,by rw[b];rfl]]
def abA [C:Cz X B k][Q:Af B c0 l](d:l.contains m=γ)(h:u2 X i x=γ)(c:ZE X B e f)(b:Wz X e (.Attribute (.Name x p) m apos) pos):ZS X B (.Assign [.Attribute (.Name x p) m apos] e pos) (wI c0 i m f):=#v[WO (Z2 (Kx h) c.p b) (by obtain⟨i,_,e⟩:=lX (lA.1 d);exact C.K▸Q.p.at i (bY.2 #v[_,e]))]
def abB [C:Cz X B k](h:u2 X i x=γ)(b:ZE X B e' f')(d:ZE X B e f)(c:Wz X e (.Subscript (.Name x p) e' apos) pos):ZS X B (.Assign [.Subscript (.Name x p) e' apos] e pos) (zJ i f' f):=#v[Tn (Wa (Ma C.r) (Kx h) b.p d.p c)]
def abC [Q:Ij B n](h:ZE X B e f):ZE X B e (Et n f):=#v[Xe Q.p h.p]
section
variable{ks:List (Option Expr)}{kfs:List (Str×FE)}
def abD:ZP X B pos [] [] []:=#v[Wb]
def abE(c:ZE X B e f)(b:ZP X B pos ks es kfs):ZP X B pos (Z (.Constant (.str y) j p)::ks) (e::es) ((y,f)::kfs):=#v[Sr RN c.p b.p]
def abF(h:ZP X B pos ks es kfs)(c:(ks.all (·.isSome)&&decide (ks.length=es.length)&&!ks.isEmpty&&decide (ks.length<=15)&&decide (kfs.map λq=>(Sum.inr q.1:d?)).Nodup&&decide (kfs.length<=15))=γ):ZE X B (.Dict ks es pos) (Hg kfs):=by simp only[aW,bK,dH]at c;obtain⟨⟨⟨⟨⟨a1,d⟩,b⟩,l⟩,r⟩,t⟩:=c;exact#v[Xh (Wc h.p a1 d (λz=>by rw[z]at b;cases b) l) r t]
end
def abG{lo:Option Expr}{fl:FO}[C:Cz X B k](c:ZE X B e f)(l:ZO X B lo fl)(d:ZO X B h b):ZN X B (.Subscript e (.Slice lo h O p) pos) (Dy f fl b):=#v[N5 (Fd (sl_X C.K) c.p l.p d.p)]
def abH{lo:Option Expr}[C:Cz X B k](b:ZE X B e f)(q:ZK X lo l)(c:ZK X d h):ZN X B (.Subscript e (.Slice lo d O p) pos) (Xn f l h):=#v[QV (Fd (sl_X C.K) b.p q.p c.p)]
def abI:ZK X (Z (.Constant (.int y) j pos)) (Z y):=#v[S7]
def abJ:ZK X O O:=#v[aeg]
set_option r "K L Mq Mg;L T WR Wi" in def abϑ0 [C:Cz X B k](h:ZE X B e f):ZI X B tg e (iϑ1 f):=#v[ϑ2 (ϑ3 B.G.K h.p C.K)]
set_option r "M D Tx Xc;N S W6 aag" in def abϑ0(h:ZE X B e f):ZI X B tg e (iϑ1 f):=#v[ϑ2 (ϑ3 h.p)]
section
variable{gg:FG}{gs:br->bc->Option bc}
def Xo:ZH X B [] n Bi:=#v[WA VQ]
def Xp(b:ZG X B e n gg)(c:ZH X B es n gs)(d:(de (e::es) X.a4).map (·.2)=assign e X.a4::(de es X.a4).map (·.2)):ZH X B (e::es) n (wq gg gs):=#v[SM (RQ b.p c.p d)]
def Xq [C:Cz X B k](h:ZH X B es n gs)(b:(de es X.a4).length=l)(d:(de es X.a4).findIdx? (·.1)=O):ZG X B (.Tuple es q pos) n (gT gs l):=#v[WB (Wj B.G.K C.c h.p b d C.K)]
end
def tgN:Expr->aB
 |.Name x _=>[x]
 |.Tuple es _ _=>es.filterMap λe=>match e with|.Name x _=>Z x|_=>O
 |_=>[]
def cpN(X:Cx)(tg:Expr)(d3:List Nat):aB:=tgN tg++d3.map λj=>X.N.getD j ""
instance inCz [C:Cz X B k]{d:aB}{q:cR}{h:List (Str×Addr)}{A:Addr}{l:List Addr}{s:af}{H:Hp}:Cz (xJ X d q h A l s H) B k:=#v[C.P,C.w,C.K,C.mg,C.b,C.c,C.r]
def cpOk(X:Cx)(b:aB)(sc:cR)(n:Nat)(d3:List Nat):Bool:=decide d3.Nodup&&decide (sc.kind=.function)&&(sc.names.all λy=>y.2 != .cell)&&(sc.names.all λy=>y.2 != .local||sc.names.lookup y.1==Z .local)&&(sc.names.all λy=>y.2 != .free||(X.a4.kindOf y.1==Z .cell||X.a4.kindOf y.1==Z .free))&&decide (b.length=n+d3.length)&&decide ((b.drop n).map Z=d3.map λj=>X.N[j]?)&&((b.drop n).all λx=>sc.names.lookup x==Z .free)
section
variable{sc:cR}{d3:List Nat}{ifs:List Expr}{gg:FG}{ft:FT}{s:FA}
 (h0:cpOk X (cpN X tg d3) sc n d3=γ) (hs:Fz X it) (hi:ZI X B tg it s)
 (h1:∀(cl:List (Str×Addr)) (A:Addr) (fp:List Addr) (s:af) (H:Hp),ZG (xJ X (cpN X tg d3) sc cl A fp s H) B tg n gg)
 (h2:∀(cl:List (Str×Addr)) (A:Addr) (fp:List Addr) (s:af) (H:Hp),ZF (xJ X (cpN X tg d3) sc cl A fp s H) B ifs ft)
 (h3:∀(cl:List (Str×Addr)) (A:Addr) (fp:List Addr) (s:af) (H:Hp),ZE (xJ X (cpN X tg d3) sc cl A fp s H) B e f)
include h0 hs hi h1 h2 h3
theorem abP [C:Cz X B k]:ZN X B (.ListComp e [#v[tg,it,ifs,0]] sc pos) (vE n d3 s gg ft f):=by unfold cpOk at h0;simp only[aW,bK]at h0;obtain⟨⟨⟨⟨⟨⟨⟨a1,b⟩,d⟩,h⟩,l⟩,q⟩,r⟩,t⟩:=h0;exact#v[SV a1 (Wh C.c hi.p (λcl A fp s H=>#v[(h1 cl A fp s H).p,(h2 cl A fp s H).p,(h3 cl A fp s H).p]) b d h l q r t λx=>congrFun hs x)]
theorem cpW [C:Cz X B k](h:tm X i x=γ)(F:dQ (.ListComp e [#v[tg,it,ifs,0]] sc pos) (Z (.Name x p)) apos.line X.a4=pure γ):PS X (.Assign [.Name x p] (.ListComp e [#v[tg,it,ifs,0]] sc pos) apos) (E7 (G3 (L' B.G s) (tFG B.G n gg) (l0 B.G ft) (tF B.G f) n d3) (Be i))/\d3.Nodup:=by unfold cpOk at h0;simp only[aW,bK]at h0;obtain⟨⟨⟨⟨⟨⟨⟨a1,b⟩,d⟩,l⟩,q⟩,r⟩,t⟩,u⟩:=h0;obtain⟨w,y,z,E⟩:=K8 h;exact#v[W1 C.c w y z hi.p (λcl A fp s H=>#v[(h1 cl A fp s H).p,(h2 cl A fp s H).p,(h3 cl A fp s H).p]) b d l q r t u (λx=>congrFun hs x) F E,a1]
theorem abQ [C:Cz X B k](h:tm X i x=γ)(b:dQ (.ListComp e [#v[tg,it,ifs,0]] sc pos) (Z (.Name x p)) apos.line X.a4=pure γ):ZS X B (.Assign [.Name x p] (.ListComp e [#v[tg,it,ifs,0]] sc pos) apos) (vN i (cL (vE n d3 s gg ft f))):=by have z:=cpW h0 hs hi h1 h2 h3 h b;exact#v[Tf z.2 z.1]
theorem abR [C:Cz X B k](h:tm X i x=γ)(b:dQ (.ListComp e [#v[tg,it,ifs,0]] sc pos) (Z (.Name x p)) apos.line X.a4=pure γ):ZS X B (.Assign [.Name x p] (.ListComp e [#v[tg,it,ifs,0]] sc pos) apos) (xO i (vE n d3 s gg ft f)):=by have z:=cpW h0 hs hi h1 h2 h3 h b;exact#v[QZ z.2 z.1]
end
section
variable{st:Stmt}{sts:List Stmt}{fs fs':FS}{ft:FT}{a':FA}{z1:Nat}
def aer(b:ZE X B e f)(c:ZA X B es a)(d:Sz X e es):ZA X B (e::es) (ax f a):=#v[xE b.p c.p d]
def aes:ZA X B [] vP:=#v[yK]
set_option r "t str str ak;u int int aj;v bool X dT" in def aeϑ0:ZE X B (.Constant (.ϑ1 y) j pos) (cC (.ϑ2 y)):=#v[aϑ3]
def aew:ZE X B (.Constant .none j pos) (cC .U):=#v[aal]
def MN(b:ZS X B st fs)(c:ZB X B sts fs'):ZB X B (st::sts) (a0 fs fs'):=#v[SG b.p c.p]
def aex(b:ZS X B st fs):ZB X B [st] fs:=#v[Ww b.p]
def aey:ZB X B [] vG:=#v[Wv]
set_option r "T E f vA Wx;U N a wW SI" in def abϑ0(h:Zϑ1 X B e ϑ2):ZS X B (.Return (Z e) pos) (ϑ3 ϑ2):=#v[ϑ4 h.p]
def abV(h:ZE X B e f)(b:dQ e O pos.line X.a4=pure δ):ZS X B (.Expr e pos) (wc f):=#v[SJ h.p b]
def abW(h:ZT X B e ft)(b:ZB X B sts fs)(c:ZB X B sts' fs'):ZS X B (.If e sts sts' pos) (eg ft fs fs'):=#v[aau h.p b.p c.p]
def abX(h:ZA X B es a):ZN X B (.List es pos) (vO a):=#v[Wt h.p]
def abY(h:ZA X B es a):ZE X B (.Tuple es z1 pos) (vQ a):=#v[aar h.p]
def abZ(b:ZE X B e f)(c:ZE X B e' f'):ZN X B (.BinOp e .Add e' pos) (xt f f'):=#v[WW b.p c.p]
def ab0 [C:Cz X B k](b:ZE X B e f)(c:ZE X B e' f'):ZE X B (.BinOp e .Add e' pos) (Ft f f'):=#v[W7 b.p c.p C.K]
set_option r "1 And wU ap;2 Or D' dX" in def abϑ0(b:ZE X B e f)(c:ZE X B (.BoolOp .ϑ1 (e'::es) pos) f'):ZE X B (.BoolOp .ϑ1 (e::e'::es) pos) (ϑ2 f f'):=#v[aϑ3 b.p c.p]
def ab3{c}(b:ZE X B e f):ZE X B (.BoolOp c [e] pos) f:=#v[aao b.p]
set_option r "4 E f HC aaq;5 T ft xm Wp" in def abϑ0(b:Zϑ1 X B e ϑ2):Zϑ1 X B (.UnaryOp .Not e pos) (ϑ3 ϑ2):=#v[ϑ4 b.p]
def ab6(h:ZT X B o ft)(b:ZE X B e f)(c:ZE X B e' f'):ZE X B (.IfExp o e e' pos) (mw ft f f'):=#v[adY h.p b.p c.p]
def aez(h:ZT X B e ft):ZF X B [e] ft:=#v[Wg h.p]
def aeA:ZF X B [] wH:=#v[SW]
set_option r "S N a E cL aas;7 E f E KU aaL;8 T ft T G4 WX" in def abϑ0(h:Zϑ1 X B e ϑ2):Zϑ3 X B e (ϑ4 ϑ2):=#v[ϑ5 h.p]
def ab9(h:ZE X B e f):ZO X B (Z e) (o3 f):=#v[aaQ h.p]
def aca:ZO X B O oNo:=#v[aaP]
def acb(c:ZT X B e ft)(d:ZW X B (.BoolOp .Or (e'::es) pos) b):ZW X B (.BoolOp .Or (e::e'::es) pos) (xG ft b):=#v[SE c.p d.p]
set_option r "d Or Wq;e And SD" in def acϑ0(h:ZT X B e ft):ZW X B (.BoolOp .ϑ1 [e] pos) ft:=#v[ϑ2 h.p]
end
def acf [C:Cz X B k](r:kz (model X.prog X.w) X.A X.a4 X.xe)(u:X.N.length=n)(q:ZI X B tg it s)(l:ZG X B tg n d)(h:ZB X B body b)(t:Fz X it):ZS X B (.For tg it body [] pos) (xS s d b):=#v[WS (RV r C.c q.p l.p h.p λx=>congrFun t x)]
def acg(l:kz (model X.prog X.w) X.A X.a4 X.xe)(h:ZT X B e c)(d:ZB X B body b):ZS X B (.While e body [] pos) (whL c b n):=#v[QP n (RT l h.p d.p)]
end
end L4
namespace L4
open PySem PySem.Spec PyProof.Rows L2 L3
open PySem.W (fnOf)
def H?(st:Stmt):aB:=(v8 st).names.filterMap λy=>match y.2 with|.local=>Z y.1|.cell=>Z y.1|_=>O
def psO(st:Stmt):aB:=(zl st).args.map (·.arg)
def okO(N a:aB)(st:Stmt)(b n:Nat):Bool:=decide ((v8 st).kind=.function)&&(v8 st).isCoroutine==δ&&(v8 st).isGenerator==δ&&decide N.Nodup&&decide (N.take a.length=a)&&(a.all λx=>match (v8 st).names.lookup x with|some .local=>γ|some .cell=>γ|_=>δ)&&((v8 st).names.all λy=>y.2 != .free)&&decide (a.length=b)&&decide (N.length=n)
set_option h true
def y0{st:Stmt}(h:okO N ps st np n=γ):yJ N ps (v8 st)/\ps.length=np/\N.length=n:=by
 unfold okO at h;simp only[aW,bK,beq_iff_eq]at h;obtain⟨⟨⟨⟨⟨⟨⟨⟨a,b⟩,c⟩,d⟩,f⟩,i⟩,j⟩,l⟩,m⟩:=h;refine#v[#v[a,b,c,d,f,λx o=>?_,λy p e=>?_],l,m]
 .have z:=aH.1 i x o;split at z
  .rename_i e;exact .inl e
  .rename_i e;exact .inr e
  .cases z
 .have z:=aH.1 j y p;rw[e]at z;exact aq z (by decide)
section
variable{B:Bz}[Y:Yb B]{x m qual:Str}{st s0:Stmt}{l:List Stmt}{k c np n:Nat}{b:FS}{p:Str}{ps xs:aB}{N:aB}
set_option h false
abbrev W?(B:Bz)(N:aB)(qual:Str)(st:Stmt)(l:List Stmt)(k:Nat)(b:FS):Prop:=∀{f:Addr} {cdv:ab} {A:aR} {b4:List Env} {s:af} {H:Hp} {E:XK} [Cz (ID B.P B.w B.G.K B.mg B.a5 N qual st f cdv A b4 s H E) B k],ZB (ID B.P B.w B.G.K B.mg B.a5 N qual st f cdv A b4 s H E) B l b
omit Y in
def W?.ok(h:W? B N qual st l k b)(a:wM st=l):Bdy B.P B.w B.G.K B.mg B.a5 N qual st k (ki B.G b):=λf cdv A b4 s H E d=>by subst a;exact(@h f cdv A b4 s H E #v[U,U,U,U,U,U,d]).p
def gF5(N:aB)(d:g=dr np n b)(q:GD B.G.K x st)(e:wM st=s0::l)(body:W? B N x st (s0::l) k b)(S:autoParam (okO N (psO st) st np n=γ) zA6._auto_1)(a:autoParam (ν x x st (psO st)) zA5._auto_1):Df B (k+1) x (eb B.G g):=
 #v[_,gF d Y.y q (y0 S).1 (body.ok e) (y0 S).2.1 (y0 S).2.2 a]
set_option r "eo dr eb F;A? qt o? N'" in def ϑ0(d:g=ϑ1 np n b)(q:GD B.G.K x st)(e:wM st=s0::l)(body:W? B (H? st) x st (s0::l) k b)(S:okO (H? st) (psO st) st np n=γ:=by kernel_rfl)(a:ν x x st (psO st):=by (repeat intro _);rfl):Df B (k+1) x (ϑ2 B.G g):=
 #v[_,gϑ3 d Y.y q (y0 S).1 (body.ok e) (y0 S).2.1 (y0 S).2.2 a]
theorem n7(C:CF B.G.K (B.G.ca c) xs)(h:g=dr np n b)(q:GM B.G.K (B.G.ca c) m qual st)(j:wM st=s0::l)(body:W? B (H? st) qual st (s0::l) k b)(S:autoParam (okO (H? st) (psO st) st np n=γ) zA6._auto_1)(d:autoParam (ν m qual st (psO st)) zA5._auto_1):Ct B.G B.P B.w B.mg B.a5 (k+1) m c g:=by obtain⟨f,e,a,i,F⟩:=q;exact#v[f,e,_,C.ci.cl,#v[a,i,F.kp],d.ok F,Ta h (y0 S).2.1 (y0 S).2.2 F (y0 S).1 (body.ok j f)]
def V?(C:CF B.G.K (B.G.ca c) xs)(a:jw B.G.K bN x=Z (Z (.ref (B.G.ca c))))(e:g=rl c np n b)(q:GM B.G.K (B.G.ca c) "__init__" qual st)(f:wM st=s0::l)(h:psO st=p::ps)(body:W? B (H? st) qual st (s0::l) k b)(S:autoParam (okO (H? st) (p::ps) st (np+1) n=γ) zA6._auto_1)(d:autoParam (ν "__init__" qual st (p::ps)) zA5._auto_1):Kf B (k+1) x c g []:=
 #v[#v[_,gI e Y.y C a q (y0 S).1 (body.ok f) (nv (y0 S).2.1) (y0 S).2.2 d],U]
def gJ4{dds:br}(C:CF B.G.K (B.G.ca c) xs)(a:jw B.G.K bN x=Z (Z (.ref (B.G.ca c))))(t:g=rl c np n b)(q:GJ B.G.K (B.G.ca c) qual st (dds.map vD))(u:wM st=s0::l)(w:psO st=p::ps)(body:W? B (H? st) qual st (s0::l) k b)(j:Nat)(S:autoParam (okO (H? st) (p::ps) st (np+1) n=γ) zA6._auto_1)(e:autoParam (dds.all yC=γ) zA0._auto_1)
  (o:autoParam (Oj (dds.map vD).length λdl=>Oj ((p::ps).length - ((dds.map vD).drop j).length) λf=>∀(T:Addr) (kV doc pm:ab) (i:Option Addr) (cdv r:ab),∃k,bindArgs (fnOf "__init__" qual (zl st) (wM st) (v8 st) (.ref T) kV doc pm i cdv r) #v[f,[]]=seqItems? (.ref T)>>=k/\k (Z dl.toArray)=pure ((p::ps).zip (f++dl.drop j))) zA7._auto_1):Kf B (k+1) x c g (dds.drop j):=
 #v[#v[_,by rw[fT];exact gJ t Y.y C a q (y0 S).1 (body.ok u) j (nv (y0 S).2.1) (y0 S).2.2 o],by
  rw[aH]at e ⊢;exact λd h=>e d (lK h)]
def DL(n:Nat)(a:Nat->Addr):∀k,k<n->((aC n).map a).getD k 0=a k:=λk h=>by rw[bQ,bg,lQ h];rfl
def injR{n:Nat}{a:Nat->Addr}(h:decide ((aC n).map a).Nodup=γ):∀j k,j<n->k<n->a j=a k->j=k:=λj k d f e=>by rw[<-DL n a j d,<- DL n a k f]at e;exact aa0 (bh h) (by simpa using d) (by simpa using f) e
def T5:Nat->(Nat->Prop)->Prop
 |0,_=>True
 |n+1,Q=>Q 0/\T5 n λk=>Q (k+1)
theorem T5.at:∀{n:Nat} {Q:Nat->Prop},T5 n Q->∀k,k<n->Q k
 |_+1,_,h,0,_=>h.1
 |_+1,_,h,k+1,a=>T5.at h.2 k (iZ a)
end
section
variable{X:Cx}{B:Bz}{k j i n:Nat}{x y:Str}{e e' tg:Expr}{es:List Expr}{p p2 p3 pos apos:Pos}{f f':FE}{a:FA}{st:Stmt}{sts:List Stmt}{fs fs':FS}{ft:FT}
def ach [C:Cz X B k](m:ZE X B e f)(o:ZE X B e' f')(q:ZE X B b d)(h:Az X e "get")(l:Ez apos pos)(c:aF [e',b] X.a4=[(δ,eval e' X.a4),(δ,eval b X.a4)]):ZE X B (.Call (.Attribute e "get" apos) [e',b] [] pos) (DJ f f' d):=#v[To (Ma C.r) m.p o.p q.p #v[h,by rw[c];rfl,l,by rw[c];rfl]]
def aci(o:X.N.length=n)(d:ZE X B e f)(h:ZG X B tg n b)(l:swapsWithSole [tg] e pos.line X.a4=pure δ)(m:swappedStores [tg] e X.a4=pure O)(c:(de [tg] X.a4).map (·.2)=[assign tg X.a4]):ZS X B (.Assign [tg] e pos) (Fl f b):=#v[WC (Zv d.p h.p l m c)]
def acj [C:Cz X B k][N:Nb B "int"](d:Gz X "int")(b:S1 X e)(c:ZE X B e f):ZE X B (.Call (.Name "int" p) [e] [] pos) (c1 WV f):=#v[YD aaJ (ctI d (by decide) b Qt sk (xE c.p yK b))]
end
end L4
namespace L4
open PySem PySem.Spec PyProof.Rows L2 L3
def K9(f:FE)(lo c:Option Int):FE:=λd=>match f d with
 |some (.a7 a,b)=>if HT.e7 a.length 0 lo=0/\HT.e7 a.length a.length c=a.length then O else Z (.a7 (fb a lo c),b)
 |_=>O
section
variable{X:Cx}{G:Bg}
set_option h true
def Rj{lo:Option Int}(h:PE X e (tSl (Z4 G.K) (tF G f) (tO lo) (tO t))):PE X e (tF G (K9 f lo t)):=PE.b? h λC H Q q=>by
 obtain⟨F,w,j,A,x,R,e,k⟩:=q;unfold K9 at e;split at e
 .rename_i B y m;split at e
  .cases e
  .rename_i i;cases e;refine#v[F,w,j,_,_,R,m,λv z l s b r=>?_];unfold cm at r;obtain⟨a,u,rfl,o,d⟩:=r;rw[vH d]at i;exact#v[a,u,U,e?.mono b.sub o,i,λp c=>k _ _ _ (s.t (vV (b.er c) _)) (b.wh c _) (D7 (e?.of vI) (a6.mono (vV (b.er c) _) _ _ (Fq d)))]
 .cases e
set_option h false
def sl_T(hK:autoParam (X.K=G.K) zA0._auto_1):SlR X (Z4 G.K):=by rw[<-hK];exact Sj
end
section
variable{X:Cx}{B:Bz}{k:Nat}{e:Expr}{f:FE}{p pos:Pos}
def ack{lo:Option Expr}[C:Cz X B k](a:ZE X B e f)(d:ZK X lo l)(b:ZK X c h):ZE X B (.Subscript e (.Slice lo c O p) pos) (K9 f l h):=#v[Rj (Fd (sl_T C.K) a.p d.p b.p)]
end
theorem MO{f:Type}[DecidableEq f]:∀{l L:List f},l.Nodup->(∀x∈l,x∈L)->l.length<=L.length
 |[],L,_,_=>bR _
 |a::l,L,i,h=>by have c:=h a ba;have b:=dM.1 i;have:=MO b.2 λx d=>(pe (λe:x=a=>b.1 (by rw[<-e];exact d))).2 (h x (a9 _ d));rw[oN c]at this;have:=i3 c;rw[aU];omega
structure Tb(t:bS)(m n:Nat):Prop where
 mask:t.mask=m
 dm:t.dummies=#[]
 pl:t.place.size=n
section
variable{t:bS}{m n:Nat}
theorem Tb.slot(T:Tb t m n)(j:Nat):(∃i,t.slot j=.live i/\t.place[i]?=Z j)\/t.slot j=.empty:=by
 unfold SetTable.slot;by_cases h:(t.place[d8 t.place j]?==Z j)=γ
 .left;simp only[h,if_true];exact#v[_,U,fY h]
 .right;rw[qA]at h;rw[T.dm];simp[h,rS]
def Tb.free(T:Tb t m n)(h:n<=m):∃r,r<=m/\t.slot r=.empty:=by
 apply lg;intro no;have:(aC (m+1)).length<=t.place.toList.length:=MO qB λr a=>by
  rcases T.slot r with ⟨i,_,e⟩|e
  .rw[<-i7]at e;exact bV e
  .exact aq #v[r,by have:=bB.1 a;omega,e] no
 rw[bL,bZ,T.pl]at this;omega
def pk(t:bS):Nat->fR->Prop
 |0,_=>False
 |f+1,p=>t.slot p.j=.empty\/pk t f (t.advance p)
theorem pk.mono:∀{f a:Nat} {p:fR},pk t f p->f<=a->pk t a p
 |0,_,_,h,_=>h.elim
 |f+1,0,_,_,h=>aq h (by omega)
 |f+1,a+1,p,h,b=>h.imp id λh=>h.mono (by omega)
def rs(m i q:Nat):fR:=#v[i,fQ m i - i,i,q,O]
def acm(m i:Nat):fQ m i - i<=9:=by unfold fQ;split<;>omega
theorem pk.run(T:Tb t m n)(h:pk t f (rs m ((i * 5+1+q / 32) % (m+1)) (q / 32))):∀(k j:Nat),pk t (f+k+1) #v[j,k,i,q,O]
 |0,j=>.inr (by
   have e:t.advance #v[j,0,i,q,O]=rs m ((i * 5+1+q / 32) % (m+1)) (q / 32):=by unfold mH SetTable.leap;rw[T.mask];rfl
   rw[e];exact h)
 |k+1,j=>.inr (by
   have e:t.advance #v[j,k+1,i,q,O]=#v[j+1,k,i,q,O]:=by unfold mH;rw[aj (ny k)];rfl
   rw[e];exact pk.run T h k (j+1))
def pk.leap(T:Tb t m n)(h:pk t f (rs m ((i * 5+1+q / 32) % (m+1)) (q / 32))):pk t (f+10) (rs m i q):=
 (pk.run T h (fQ m i - i) i).mono (by have:=acm m i;omega)
def orb(m:Nat):Nat->Nat->List Nat
 |0,_=>[]
 |k+1,i=>i::orb m k ((i * 5+1) % (m+1))
theorem pk.orb(T:Tb t m n)(a:t.slot r=.empty):∀(k i:Nat),r∈orb m k i->pk t (10 * k) (rs m i 0)
 |0,i,h=>by cases h
 |k+1,i,h=>by
  rcases aM.1 h with e|h
  .exact pk.mono (f:=1) (.inl (by rw[e]at a;exact a)) (by omega)
  .have:=pk.leap T (q:=0) (pk.orb T a k _ h);exact this.mono (by omega)
def Pq(a:m=7\/m=31)(b:i<=m)(c:r<=m):r∈orb m (m+1) i:=by
 have h:∀m∈[7,31],((aC (m+1)).all λi=>(aC (m+1)).all λr=>(orb m (m+1) i).contains r)=γ:=by decide +kernel
 have:=aH.1 (aH.1 (h m (by rcases a with rfl|rfl<;>simp)) i (bB.2 (by omega))) r (bB.2 (by omega));exact lA.1 this
theorem pk.all(T:Tb t m n)(c:m=7\/m=31)(d:n<=m):∀(k i q:Nat),i<=m->q<32 ^ k->pk t (10 * (k+(m+1))) (rs m i q)
 |0,i,q,b,a=>by
  obtain⟨r,f,e⟩:=T.free d;have h:=by simpa using a
  rw[h,iy];exact pk.orb T e _ _ (Pq c b f)
 |k+1,i,q,b,a=>by have:=pk.leap T (pk.all T c d k ((i * 5+1+q / 32) % (m+1)) (q / 32) (qd (aK _ (ny m))) (by rw[rT]at a;omega));exact this.mono (by omega)
def pk.start(T:Tb t m n)(b:m=7\/m=31)(c:n<=m)(h:Int):pk t (10 * (m+14)) (t.probeStart h):=by
 have a:cX h<32 ^ 13:=by unfold cX;omega
 have:=pk.all T b c 13 (cX h % (m+1)) (cX h) (qd (aK _ (ny m))) a;have e:t.probeStart h=rs m (cX h % (m+1)) (cX h):=by unfold SetTable.probeStart;rw[T.mask];rfl
 rw[e];exact this.mono (by omega)
def T6{p:fR}(h:p.dummy=O):(t.advance p).dummy=O:=by unfold mH;split<;>exact h
theorem T7(T:Tb t m n)(F:Nat->Int)(h:Int):∀(f:Nat) (p:fR),p.dummy=O->pk t f p->∀g,f<=g->(∃j,t.slot j=.empty/\jf t F h g p=Z (.empty j O))\/
  ∃j i next c,c<f/\t.slot j=.live i/\t.place[i]?=Z j/\F i=h/\jf t F h g p=Z (.candidate j i next)/\next.dummy=O/\pk t c next
 |0,p,_,a,g,_=>a.elim
 |f+1,p,hd,a,0,o=>aq o (by omega)
 |f+1,p,hd,a,g+1,o=>by
  unfold jf;rcases T.slot p.j with ⟨i,b,q⟩|b
  .have a:=a.resolve_left λe=>by rw[b]at e;cases e
   rw[b];dsimp only;by_cases d:F i=h
   .right;exact#v[p.j,i,t.advance p,f,dJ f,b,q,d,by rw[aj (by rw[d];simp)],T6 hd,a]
   .rw[ak (by simpa using d)];rcases T7 T F h f (t.advance p) (T6 hd) a g (by omega)with l|⟨j,w,x,c,l,r,u⟩
    .exact .inl l
    .exact .inr #v[j,w,x,c,by omega,r,u]
  .left;rw[b];exact#v[p.j,b,by rw[hd]]
end
def acn(e:∀i,F i=F' i)(g:Nat)(p:fR):jf t F h g p=jf t F' h g p:=by obtain rfl:F=F':=funext e;rfl
section
variable{prog:aL}{w:aE}{A:aR}{E:ab->af->Prop}{s:af}
def IV(b:∀v∈l,∃k a,v=.ref a/\TK prog w s.heap k a)(f:TK prog w s.heap j i)(h:Q δ s):ao (model prog w) A (searchCouldBeSeen (.ref i) l) Q E s:=by
 refine ai ?_;refine j4 _ (λet r d=>r=(O,())/\d=s/\∀v∈et,∃k a,v=.ref a/\TK prog w s.heap k a) _ ?_ ?_ _ _ #v[U,U,b]
 .rintro v et r d ⟨rfl,rfl,hall⟩;obtain⟨k,a1,rfl,b⟩:=hall v ba;have e:=λu c=>hall u (a9 _ c);dsimp only;split
  .exact ar #v[U,U,e]
  .refine ai (o5 f ?_);refine ai (o5 b ?_);refine ai (Pj f ?_);refine ai (Pj b ?_);exact ar #v[U,U,e]
 .rintro r d ⟨rfl,rfl,_⟩;exact ar h
structure Els(prog:aL)(w:aE)(h:Heap)(L:List (List d?×Addr))(es:Array (Int×ab)):Prop where
 tk:∀q∈L,TK prog w h q.1 q.2
 p:(es.toList.map cc).Perm (L.map λq=>Value.ref q.2)
variable{L:List (List d?×Addr)}{es:Array (Int×ab)}{t:bS}{m n ep:Nat}{S a2:Addr}{k2:List d?}{o:Obj}{h:Int}
theorem MP(G:A.units<cLine)(T:Tb t m n)(F:m=7\/m=31)(c:t.fits es.size=γ)(l:Els prog w s.heap L es)(B:TK prog w s.heap k2 a2)(H:k2∉L.map cp)
  (z:s.heap.get? S=Z o) (hd:o.data=.set es ep t) (hQ:∀j,t.slot j=.empty->Q (.free j δ) s):∀(fuel f:Nat) (st:Option fR),f<fuel->f<=10 * iq m->(st.getD (t.probeStart h)).dummy=O->pk t f (st.getD (t.probeStart h))->
   ao (model prog w) A (setSearchFrom S (.ref a2) h γ fuel st) Q E s
 |0,f,st,C,_,_,_=>aq C (by omega)
 |fuel+1,f,st,C,Y,hdm,b=>by
  have sz:=by unfold jl at c;rw[aW,beq_iff_eq,T.pl]at c;exact c.1.symm
  refine ai (dA z hd c ?_);dsimp only;rw[ak (by unfold SetTable.gaveWay;rw[T.mask];rcases F with rfl|rfl<;>decide)];unfold SetTable.probe;rw[acn (F':=λi=>(es[i]?.map (·.1)).getD 0),T.mask]
  rotate_left
  .intro i;rfl
  rcases T7 T (λi=>(es[i]?.map (·.1)).getD 0) h f _ hdm b (10 * iq m) Y with ⟨j,I,u⟩|⟨j,i,nx,J,h1,N,P,h4,R,W,X⟩
  .rw[u];exact ar (hQ j I)
  .rw[R];dsimp only;have hi:i<es.size:=by rw[sz,<- T.pl];exact(oH.1 P).1
   obtain⟨⟨M,y⟩,d⟩:∃e,es[i]?=Z e:=#v[es[i],jG hi];have my:y∈es.toList.map cc:=au.2 #v[(M,y),by rw[<-i7]at d;exact bV d,U];obtain⟨q,r,rfl⟩:=au.1 (l.p.mem_iff.1 my);have t1:=l.tk q r;have nk:=λe=>H (au.2 #v[q,r,e]);have si:t.sameMemory t.moves m=Z γ:=by unfold SetTable.sameMemory;simp
   have et:=MP G T F c l B H z hd hQ fuel J (Z nx) (by omega) (by omega) W X;have sb:∀v∈c4 (λx:Int×ab=>x.snd) (Array.filter (λx=>x.fst==h) es).toList,∃k a,v=Value.ref a/\TK prog w s.heap k a:=λv hv=>by
    obtain⟨e,b,rfl⟩:=au.1 hv;have b:=by rw[Array.toList_filter]at b;exact(aQ.1 b).1
    obtain⟨q,r,u⟩:=au.1 (l.p.mem_iff.1 (au.2 #v[e,b,U]));exact#v[q.1,q.2,u.symm,l.tk q r]
   cases hb:t.led;refine ai (IV sb B ?_)
   all_goals
    rw[d];refine ai (cJ (wpAny_eqBool_tuple G t1 B ?_));refine ai (dA z hd c ?_);rw[aP nk];rw[ak (by decide),si];dsimp only;rw[aj U,N];dsimp only;rw[d];refine ai (wpAny_isSame_ref_self ?_);refine ai (ar ?_);exact et
end
def Nn(a:Array (Option Nat))(j:Nat):Prop:=(a.getD j (Z 0)).isNone=γ
section
variable{ow:Array (Option Nat)}
def aco(i:Nat):0<fQ 31 i+1 - i:=by unfold fQ;split<;>omega
def Kb:(∃j,Nn ow j/\eO 31 ow (f+1) i q=Z j)\/(¬Nn ow i/\eO 31 ow (f+1) i q=eO 31 ow f ((i * 5+1+q / 32) % 32) (q / 32)):=by
 have a:eO 31 ow (f+1) i q=match (aC (fQ 31 i+1 - i)).find? λk=>(ow.getD (i+k) (Z 0)).isNone with
  |some k=>Z (i+k)
  |none=>eO 31 ow f ((i * 5+1+q / 32) % 32) (q / 32):=rfl
 rw[a];cases e:(aC (fQ 31 i+1 - i)).find? λk=>(ow.getD (i+k) (Z 0)).isNone with
 |some k=>exact .inl #v[i+k,mO (p:=λk=>(ow.getD (i+k) (Z 0)).isNone) e,U]
 |none=>refine .inr #v[λh=>?_,U];have:=l8.1 e 0 (bB.2 (aco i));exact this h
theorem MQ(c:Nn ow r):∀(k f i:Nat),k<=f->r∈orb 31 k i->∃j,Nn ow j/\eO 31 ow f i 0=Z j
 |0,f,i,_,h=>by cases h
 |k+1,0,i,b,_=>aq b (by omega)
 |k+1,f+1,i,b,h=>by
  rcases Kb with a|⟨a,d⟩
  .exact a
  .rcases aM.1 h with e|h
   .exact aq (e▸c) a
   .rw[d];exact MQ c k f _ (by omega) h
theorem MR(e:Nn ow r)(a:r<=31):∀(k f i q:Nat),k+32<=f->i<=31->q<32 ^ k->∃j,Nn ow j/\eO 31 ow f i q=Z j
 |0,f,i,q,b,d,c=>by
  have m:=by simpa using c
  rw[m];exact MQ e 32 f i (by omega) (Pq (.inr U) d a)
 |k+1,0,i,q,b,_,_=>aq b (by omega)
 |k+1,f+1,i,q,b,d,c=>by
  rcases Kb with h|⟨_,l⟩
  .exact h
  .rw[l];exact MR e a k f _ _ (by omega) (by omega) (by rw[rT]at c;omega)
def lv(ow:Array (Option Nat)):List (Nat×Nat):=(aC 32).filterMap λj=>(ow.getD j O).map (j,·)
def aeB(b:ow.size=32)(h:Nn ow j):j<32/\ow.getD j O=O:=by
 unfold Nn at h;by_cases a:j<ow.size
 .refine#v[by omega,?_];rw[hU,jG a]at h ⊢;simpa using h
 .rw[hU,Array.getElem?_eq_none (by omega)]at h;cases h
def acp(p:ow.size=32)(h:Nn ow j):(lv (ow.setIfInBounds j (Z k))).Perm ((j,k)::lv ow):=by
 obtain⟨o,e⟩:=aeB p h;have get:∀i,(ow.setIfInBounds j (Z k)).getD i O=if i=j then Z k else ow.getD i O:=λi=>by
  rw[hU,hU,Array.getElem?_setIfInBounds];by_cases c:j=i
  .subst c;rw[aj U,aj (by omega),aj U];rfl
  .rw[ak c,ak (λe=>c e.symm)]
 obtain⟨a,b,m⟩:=List.append_of_mem (bB.2 o);have d:(aC 32).Nodup:=qB;rw[m,cu,dM]at d;unfold lv;rw[m,o6,o6,eU,eU,get j,aj U,e];have eq:∀l:List Nat,j∉l->l.filterMap (λi=>((ow.setIfInBounds j (Z k)).getD i O).map (i,·))=l.filterMap λi=>(ow.getD i O).map (i,·):=λl f=>by
  induction l with
  |nil=>rfl
  |cons i l q=>rw[eU,eU,q λz=>f (a9 _ z),get i,ak λe=>f (by rw[<-e];exact ba)]
 rw[eq a λz=>d.2.2 j z j ba U,eq b d.2.1.1];exact List.perm_middle
theorem T8:∀(b:List Int) (ow:Array (Option Nat)) (k:Nat),ow.size=32->((lv ow).map cc).Perm (aC k)->k+b.length<=31->∃a,a.size=32/\((lv a).map cc).Perm (aC (k+b.length))/\
  (b.foldl (λacc h=>do
   let (owner,k)<-acc;let j<-eO 31 owner (iq 31) (cX h % (31+1)) (cX h)
   pure (owner.setIfInBounds j (Z k),k+1)) (Z (ow,k)))=Z (a,k+b.length)
 |[],ow,k,c,d,_=>#v[ow,c,d,U]
 |h::b,ow,k,c,d,o=>by
  rw[aU]at o ⊢;have fr:∃r,r<=31/\Nn ow r:=by
   apply lg;intro no;have len:(lv ow).length=32:=by
    have:∀l:List Nat,(∀j∈l,j<=31)->(l.filterMap λj=>(ow.getD j O).map (j,·)).length=l.length:=λl i=>by
     induction l with
     |nil=>rfl
     |cons j l w=>
      have f:=i j ba;have q:=λe=>no #v[j,f,e];cases e:ow.getD j O with
      |none=>refine aq ?_ q;unfold Nn;rw[hU,jG (by omega)]at e ⊢;simpa using e
      |some x=>rw[eU,e];show (List.filterMap _ l).length+1=l.length+1;rw[w λz u=>i z (a9 _ u)]
    exact(this (aC 32) λj f=>by have:=bB.1 f;omega).t bL
   have:=d.length_eq;rw[ae,bL,len]at this;omega
  obtain⟨r,t,A⟩:=fr;have p:cX h<32 ^ 13:=by unfold cX;omega
  obtain⟨j,y,m⟩:=MR A t 13 (iq 31) (cX h % (31+1)) (cX h) (by decide) (by omega) p;obtain⟨a,B,C,q3⟩:=T8 b (ow.setIfInBounds j (Z k)) (k+1) (by rw[Array.size_setIfInBounds];exact c) (by
   refine((acp c y).map cc).t ?_;rw[aV,j9];exact((List.Perm.cons k d).t (k8 k _).symm)) (by omega)
  refine#v[a,B,by rw[show k+(b.length+1)=k+1+b.length by omega];exact C,?_];rw[jj,show k+(b.length+1)=k+1+b.length by omega,<- q3];congr 1;show (eO 31 ow (iq 31) (cX h % (31+1)) (cX h)).bind _=_;rw[m];rfl
def Xr(a:Array Int)(i:a.size<=31):∃t order,rJ 31 f mv led pl a=Z (t,order)/\Tb t 31 a.size/\t.led=led/\t.plain=pl/\order.toList.Perm (aC a.size):=by
 obtain⟨ow,h,b,c⟩:=T8 a.toList (qN 32 O) 0 (by simp) (by
  have:lv (qN 32 O)=[]:=by unfold lv;rw[List.filterMap_eq_nil_iff];intro j d;rw[hU,Array.getElem?_replicate,aj (bB.1 d)];rfl
  rw[this];exact .nil) (by rw[bZ];omega)
 rw[iy,bZ]at b c;have e:qe 31 a=Z ow:=by unfold qe;rw[<-Array.foldl_toList];exact bE (sv cp) c
 refine#v[_,_,by unfold rJ;rw[e];rfl,#v[U,U,?_],U,U,?_]
 .have:=b.length_eq;rw[ae,bL]at this;show (c4 _ (lv ow)).toArray.size=_;rw[bp,ae,this]
 .exact b
end
def Cz2(m n:Nat):Prop:=(m=7/\n<=4)\/(m=31/\n<=18)\/(m=127/\19<=n/\n<=63)
section
variable{prog:aL}{w:aE}{A:aR}{E:ab->af->Prop}{s:af}
theorem T9(d:TK prog w s.heap (Sum.inr x::p) a)(h:Q δ s):ao (model prog w) A (hashByValue 8 (.ref a)) Q E s:=by
 have hT:=d.typeIs;obtain⟨o,items,n,i,_,hd,c⟩:=d;refine ai (ji hT F.slot_tuple_hash.lookup ?_);refine ai (mS i hd ?_);refine ai ?_;show ao _ _ (forIn items _ _) _ _ s;rw[<-pQ];generalize items.toList=l at c ⊢;cases c with
 |@cons _ v _ j f m=>
  obtain⟨t,rfl⟩:∃t,v=.str x t:=Pl f;refine j4 _ (λet r b=>b=s/\∃u,et=.str x t::u) _ ?_ ?_ _ _ #v[U,j,U]
  .rintro v et r b ⟨rfl,u,e⟩;cases e;refine ai (ar ?_);exact ar (ar h)
  .rintro r b ⟨rfl,u,e⟩;cases e
variable{L:List (List d?×Addr)}{es:Array (Int×ab)}{t:bS}{m n ep:Nat}{S a2:Addr}{k2:List d?}{o:Obj}{h:Int}
def Ua(j:t.mask=7)(a:s.heap.get? S=Z o)(hd:o.data=.set es ep t)(hf:t.fits es.size=γ)(h5:es.size=5)
  (hQ:∀h' es' t',eh S s.heap h'->h'.get? S=Z { o with data:=.set es' (ep+1) t' }->Tb t' 31 5->t'.led=t.led->t'.plain=t.plain->es'.toList.Perm es.toList->Q () { s with heap:=h' }):ao (model prog w) A (setRelay S (d9 5)) Q E s:=by
 refine ai (dA a hd hf ?_);dsimp only;rw[ak (by rw[bX];decide)];obtain⟨t',order,d,T,e,f,b⟩:=Xr (es.map (·.1)) (by rw[rj];omega)
 rw[rj]at T b;have c:(order.filterMap (es[·]?)).toList.Perm es.toList:=by rw[Array.toList_filterMap];exact(b.filterMap _).t (by rw[lp])
 have i:t.relaid (es.map (·.1)) (d9 5)=Z (t',order):=d
 rw[i];have sz:=by have:=c.length_eq;rw[bZ,bZ]at this;exact this
 refine ai ?_;wp_delta;rw[ak (by rw[sz];simp)];refine ar ?_;refine jW a hd ?_ (by show (order.filterMap (es[·]?)).size<=aJ;rw[sz,bX];omega)
 exact hQ _ _ _ (dF ..) (Ob a hd) (by rw[h5]at T;exact T) e f c
set_option h true
def add_n(J:A.units<cLine)(T:Tb t m n)(b:Cz2 m n)(P:n<=8)(hf:t.fits es.size=γ)(l:Els prog w s.heap L es)(y:TK prog w s.heap (Sum.inr x::k2) a2)(ne:(Sum.inr x::k2)∉L.map cp)
  (c:s.heap.get? S=Z o) (hd:o.data=.set es ep t)
  (hQ:∀h' es' t' i u,eh S s.heap h'->h'.get? S=Z { o with data:=.set es' i t' }->Tb t' u (n+1)->Cz2 u (n+1)->t'.led=t.led->t'.plain=δ->(es'.toList.map cc).Perm (.ref a2::es.toList.map cc)->Q γ { s with heap:=h' }):
  ao (model prog w) A (setAddHashed S (.ref a2) h) Q E s:=by
 have b:(m=7/\n<=4)\/(m=31/\n<=9):=by unfold Cz2 at b;omega
 have hm:=b.imp And.left And.left;have sz:=by unfold jl at hf;rw[aW,beq_iff_eq,T.pl]at hf;exact hf.1.symm
 refine cJ (ai (dA c hd hf ?_));dsimp only;rw[ak (by simp[byScan,Value.scannable])];have nm:n<=m:=by rcases b with ⟨rfl,h⟩|⟨rfl,h⟩<;>omega
 refine ai (MP J T hm hf l y ne c hd (λj R=>?_) 100000 (10 * (m+14)) O (by rcases hm with rfl|rfl<;>decide) (by unfold iq;omega) U (pk.start T hm nm h));refine ai (dA c hd hf ?_);have M:=T.mask;have p2:(t.put j).1.dummies=#[]:=by show (if rS t.dummies j then _ else t.dummies)=_;rw[T.dm];rfl
 have p3:=by have:=(oZ t.place (d8 t.place j) j).length_eq;rw[bZ,bZ,Array.size_push,T.pl]at this;exact this
 have p:(jX es (t.put j).2 (h,Value.ref a2)).toList.Perm ((h,.ref a2)::es.toList):=by refine(oZ es _ _).t ?_;rw[mC];exact k8 _ _
 have q:=by have:=p.length_eq;rw[bZ,aU,bZ,sz]at this;exact this
 let d:={ (t.put j).1 with plain:=δ };have a:Tb d m (n+1):=#v[M,p2,p3];have I:d.fits (jX es (t.put j).2 (h,Value.ref a2)).size=γ:=by unfold jl m8;rw[q,a.pl,a.dm,a.mask,aW];exact#v[by simp,aS (by rcases b with ⟨rfl,h⟩|⟨rfl,h⟩<;>simp<;>omega)]
 have fin:∀f:bS,f=d->ao (model prog w) A (do
   storeSet S (jX es (t.put j).2 (h,.ref a2)) f
   if (!δ&&f.tooFull)=γ then do setRelay S (d9 (es.size+1));pure γ else pure γ) Q E s:=λf e=>by
  subst e;refine ai (jW c hd ?_ (by rw[q,bX];omega));have g1:=Ob (es':=jX es (t.put j).2 (h,Value.ref a2)) (t':=d) c hd;have N:d.tooFull=decide ((n+1) * 5 >= m * 3):=by unfold SetTable.tooFull m8;rw[a.pl,a.dm,a.mask];rfl
  rw[N];by_cases h5:(n+1) * 5 >= m * 3
  .rw[aS h5,aj (by decide)];obtain⟨rfl,rfl⟩:m=7/\n=4:=by rcases b with ⟨rfl,h⟩|⟨rfl,h⟩<;>omega
   rw[sz];refine ai (Ua a.mask g1 U I q λh' es' t' z B C F G H=>?_);refine ar (hQ h' es' t' _ 31 ((dF ..).t z) B C (.inr (.inl #v[U,by decide])) F G ?_);exact(H.map _).t (p.map _)
  .rw[aP h5,ak (by decide)];refine ar (hQ _ _ _ _ m (dF ..) g1 a ?_ U U (p.map _));rcases b with ⟨rfl,h⟩|⟨rfl,h⟩
   .exact .inl #v[U,by omega]
   .exact .inr (.inl #v[U,by omega])
 split
 .refine ai (T9 y ?_);exact fin _ U
 .rename_i r;refine ai (ar (fin _ ?_));rw[qA]at r;rw[aj U];show (t.put j).1={ (t.put j).1 with plain:=δ };rw[<-r]
end
set_option h false
structure La(h:Heap)(S:Addr)(L:List (List d?×Addr))(led:Bool)(n:Nat)(o:Obj)(es:Array (Int×ab))(ep:Nat)(t:bS):Prop where
 f?:h.get? S=Z o
 ex:o.ExactSet
 d:o.data=.set es ep t
 c:∃m,Tb t m n/\Cz2 m n
 led:t.led=led
 pl:0<n->t.plain=δ
 p:(es.toList.map cc).Perm (L.map λq=>Value.ref q.2)
def La.sz{h:Heap}{S:Addr}{L:List (List d?×Addr)}{led:Bool}{n:Nat}{o:Obj}{es:Array (Int×ab)}{ep:Nat}{t:bS}(x:La h S L led n o es ep t):es.size=L.length:=by have:=x.p.length_eq;rw[ae,ae,bZ]at this;exact this
theorem La.fits{h:Heap}{S:Addr}{L:List (List d?×Addr)}{led:Bool}{n:Nat}{o:Obj}{a:Array (Int×ab)}{b:Nat}{t:bS}(x:La h S L led n o a b t)(d:L.length=n):t.fits a.size=γ:=by obtain⟨m,T,c⟩:=x.c;unfold jl m8;rw[x.sz,d,T.pl,T.dm,T.mask,aW];exact#v[by simp,aS (by unfold Cz2 at c;simp;omega)]
section
variable{prog:aL}{w:aE}{A:aR}{R:gX->af->Prop}{I:Addr}{fp wr:List Addr}{GG:Array gV->Array gV->Prop}{n:Nat}{PP:Nat->ab->Prop}{SS:Nat->af->Prop}
def Rm(W:WalksS prog w A.in1 I fp wr GG n PP SS){S:Addr}{led:Bool}(hSf:S∉fp)(N:A.in1.units<cLine)(L:List (List d?×Addr))(hn:L.length=n)(h8:n<=8)(nd:(L.map cp).Nodup)(hk:∀q∈L,∃x k,q.1=Sum.inr x::k)(far:∀q∈L,q.2∉S::wr)
  (hval:∀i v,PP i v->∃q,L[i]?=Z q/\v=.ref q.2):∀(k i:Nat) (s:af) (o:Obj) (es:Array (Int×ab)) (ep:Nat) (t:bS),n - i=k->i<=n->SS i s->(∀q∈L,TK prog w s.heap q.1 q.2)->La s.heap S (L.take i) led i o es ep t->
   (∀f o es ep t,Moved (S::wr) GG s f->La f.heap S L led n o es ep t->R (.ok (.ret .none)) f)->
   cG (model prog w) A (.builtin "set.update.loop" #v[[.ref S,.ref I],[]]) R s:=by
 have hSw:=λz=>hSf ((W).sub _ z);have up:∀b∈wr,b∈S::wr:=λb z=>a9 _ z;intro k
 induction k with
 |zero=>
  intro i s o es ep t F hi hst tk x hR;obtain rfl:i=n:=by omega
  refine d7 ia ?_;rw[eQ dY _];refine ai (W.done s _ _ hst λf hm=>?_);rw[ic (by omega)]at x;exact ar (hR f o es ep t (hm.mono up) { x with f?:=hm.heap S _ hSw x.f? })
 |succ k ih=>
  intro i s o es ep t F hi hst tk x hR;have hlt:i<n:=by omega
  refine d7 ia ?_;rw[eQ dY _];refine ai (W.item i s _ _ hlt hst λv f hP hst' hm=>?_);obtain⟨q,eq,rfl⟩:=hval i v hP;have G:=bV eq;have a:=λq M=>(tk q M).fh λo=>hm.heap q.2 o λz=>far q M (up _ z);refine ai (cJ ?_);unfold setAdd;refine cJ ?_;refine ai (wpAny_pyHash_tuple N (a q G) ?_);obtain⟨m,T,c⟩:=x.c;obtain⟨z,kk,J⟩:=hk q G;have tq:TK prog w f.heap (Sum.inr z::kk) q.2:=by rw[<-J];exact a q G
  have split:L.take (i+1)=L.take i++[q]:=by rw[gu,eq];rfl
  have ne:=λw'=>by have h1:((L.take (i+1)).map cp).Nodup:=nd.sublist ((jT _ _).map _);rw[split,aX,cu]at h1;exact h1.2.2 _ w' _ (bu.2 J.symm) U
  have sub:∀r∈L.take i,r∈L:=λr hr=>(jT _ _).subset hr;have u:={ x with f?:=hm.heap S _ hSw x.f? };refine add_n N T c (by omega) (u.fits (by rw[cv];omega)) #v[λr hr=>a r (sub r hr),u.p] tq ne u.f? u.d λh' j P h m' B Q X Y b5 b6 b7=>?_;have y:La h' S (L.take (i+1)) led (i+1) { o with data:=.set j h P } j h P:=by refine#v[Q,x.ex,U,#v[m',X,Y],b5.t x.led,λ_=>b6,b7.t ?_];rw[split,aX];exact(List.Perm.cons _ x.p).t (k8 _ _).symm
  refine ar #v[gL dY _,ih (i+1) _ _ _ _ _ (by omega) hlt (W.frame _ f h' _ hst' (ik _ _) λb z o e=>?_) (λr hr=>(a r hr).fh λo e=>?_) y λH o2 E C t2 l x2=>?_]
  .rw[B.2 b (λy:b=S=>hSf (by rw[<-y];exact z))];exact e
  .rw[B.2 r.2 (λy:r.2=S=>far r hr (by rw[y];exact ba))];exact e
  .refine hR H o2 E C t2 (kj W.gtrans ((hm.mono up).then_heap (ik _ _) λb o z e=>?_) l) x2;rw[B.2 b (λy:b=S=>z (by rw[y];exact ba))];exact e
end
theorem Lb{b:Type}:∀(l:List b) (j:Nat) (x:b),l[j]?=Z x->(x::l.eraseIdx j).Perm l
 |[],j,x,h=>by cases h
 |a::l,0,x,h=>by cases h;exact .refl _
 |a::l,j+1,x,h=>(List.Perm.swap a x _).t (List.Perm.cons a (Lb l j x h))
theorem Pt{b:Type}(a:Nat->Nat):∀(f k:Nat) (l:List b) (out:Array b),l.length=f->(rU a f k l out).toList.Perm (out.toList++l)
 |0,k,l,out,h=>by obtain rfl:=hZ.1 h;rw[cf];exact .refl _
 |f+1,k,l,out,h=>by have hlt:a k % l.length<l.length:=aK _ (by omega);have e:l[a k % l.length]?=Z l[a k % l.length]:=aO hlt;unfold rU;rw[e];refine(Pt a f (k+1) _ _ (by rw[pf,aj hlt];omega)).t ?_;rw[mC,b9];exact List.Perm.append_left _ (Lb l _ _ e)
def Kc{c:Type}(b:Nat->Nat)(a:Array c):(pickOrder b a).toList.Perm a.toList:=Pt b a.size 0 a.toList #[] bZ
section
variable{prog:aL}{w:aE}{A:aR}{E:ab->af->Prop}{s:af}
def Xs(hn:n≠0)(h:∀i d,i<n->Q i { s with drawn:=d }):ao (model prog w) A (choose src n) Q E s:=λΓ p hΓ=>by show Sem.wp _ Γ (.choose src n .pure) _ _ p s;rw[Sem.wp_choose];exact#v[hn,h _ _ (aK _ (Nat.pos_of_ne_zero hn))]
theorem Pu{α:Type}:∀(n:Nat) (xs:List α) (s:af) {Q:List α->af->Prop},xs.length=n->(∀c d,c.Perm xs->Q c { s with drawn:=d })->ao (model prog w) A (drawOrder n xs) Q E s
 |0,xs,s,Q,b,h=>by obtain rfl:=hZ.1 b;unfold drawOrder;exact ar (h [] s.drawn (.refl _))
 |n+1,[],s,Q,b,h=>by cases b
 |n+1,a::xs,s,Q,b,h=>by unfold drawOrder;refine ai (Xs (by simp) λi d hi=>?_);have e:(a::xs)[i]?=Z (a::xs)[i]:=aO hi;rw[e];refine ai (Pu n _ _ (by rw[pf,aj hi];omega) λc f p=>?_);exact ar (h _ f ((List.Perm.cons _ p).t (Lb _ _ _ e)))
end
set_option r "zr next__;FI iter__" in def ϑ0:Slot "set_iterator" "__ϑ1" "set_iterator.__ϑ1" :=
 .of (owner:="set_iterator") (n:="__ϑ1") (by rw[qO,o7];kernel_rfl) (by decide +kernel) (by decide +kernel) (by decide +kernel)
  (by first|exact .inl (by decide +kernel)|exact .inr (by decide +kernel)) (by rw[kc];kernel_rfl)
def JK:entryFor table "set_iterator.__next__" = Z fG.«set_iterator.__next__»:=entryFor_of_tree (by kernel_rfl)
def MU:Manifest.owners.lookup (String.ofList ['r','o','t','a','r','e','t','i','_','t','e','s'].reverse)=Z Manifest.sig_set_iterator:=by kernel_rfl
def Lc(a:ab):argsOk "set_iterator.__next__" #v[[a],[]]:=by unfold argsOk;rw[rK (id:="set_iterator.__next__") (n:=['_','_','t','x','e','n','_','_']) (o:=['r','o','t','a','r','e','t','i','_','t','e','s']) (by kernel_rfl) MU];kernel_rfl
def Ld:entryFor table "set.__iter__" = Z fG.«frozenset.__iter__»:=ro (id':="frozenset.__iter__") (by kernel_rfl) U (by decide +kernel) (by kernel_rfl)
inductive Md(w:aE) (h:Heap) (S TP:Addr) (i:Nat) (ij:List ab) (es:Array (Int×ab)) (ep:Nat) (t:bS):ab->Prop
 |txt {sl:Int} {tk:Tok}:w.params.followText "set-order" = γ->ij=(pickOrder (w.params.setOrder S ep) es).toList.map cc->Md w h S TP i ij es ep t (.int sl tk)
 |drw {ps:List Nat} {vs:Array ab} {ot:Obj} {nt:Nat}:w.params.followText "set-order" = δ->h.get? TP=Z ot->ot.cls=.type "tuple" -> ot.data=.seq vs nt->vs=(ps.map λp:Nat=>rawInt p).toArray->ps.Perm (aC es.size)->ij=ps.filterMap (λp=>es[p]?.map cc)->Md w h S TP i ij es ep t (.ref TP)
 |one {sl:Int}:w.params.followText "set-order" = δ->es.size<=1->t.led=γ->(i=0->sl=0)->(∀j,i=1->t.place=#[j]->sl=(j+1:Nat))->ij=es.toList.map cc->Md w h S TP i ij es ep t (.int sl 0)
structure ItS(w:aE)(I S TP:Addr)(ij:List ab)(o:Obj)(es:Array (Int×ab))(ep:Nat)(t:bS)(i:Nat)(h:Heap):Prop where
 it:∃oi first,h.get? I=Z oi/\oi.cls=.type "set_iterator" /\ oi.data=.fields #[first,.int i 0,.ref S,.int es.size 0,.int ep 0]/\Md w h S TP i ij es ep t first
 f?:h.get? S=Z o
 d:o.data=.set es ep t
 f:t.fits es.size=γ
section
variable{prog:aL}{w:aE}{A:aR}{E:ab->af->Prop}{s:af}{I S TP:Addr}{ij:List ab}{o:Obj}{es:Array (Int×ab)}{ep:Nat}{t:bS}{i:Nat}
def GF(h:Q (w.params.followText "set-order") s):ao (model prog w) A setsByText Q E s:=by exact ai (mF (ar h))
def Om(x:ItS w I S TP ij o es ep t i s.heap)(M:Md w s.heap S TP i ij es ep t (.int y P))(H:i<=1\/w.params.followText "set-order" = γ)
  (hQ:∀(v:ab) (u:Nat),ij[i]?=Z v->Md w s.heap S TP (i+1) ij es ep t (.int u 0)->Q (Z (v,u)) s) (hN:ij[i]?=O->Q O s):ao (model prog w) A (setNext S y.toNat i ep) Q E s:=by
 refine ai (dA x.f? x.d x.f ?_);refine ai (GF ?_);cases M with
 |txt a b=>
  rw[a,aj U];rw[ak (by simp)];refine ai ?_;refine ai (dA x.f? x.d x.f ?_);refine ai (GF ?_);rw[a,aj U];refine ai (mF ?_);refine ar ?_;refine ar ?_;show Q (sv (λe=>(e.snd,y.toNat)) (pickOrder (w.params.setOrder S ep) es)[i]?) s;have e:ij[i]?=((pickOrder (w.params.setOrder S ep) es)[i]?).map cc:=by rw[b,bg,i7]
  cases r:(pickOrder (w.params.setOrder S ep) es)[i]? with
  |none=>rw[r]at e;exact hN e
  |some q=>rw[r]at e;exact hQ q.2 _ e (.txt a b)
 |one a b p C F h=>
  have fs:=by have:=x.f;unfold jl at this;rw[aW,beq_iff_eq]at this;exact this.1
  rw[a,ak (by decide)];rw[ak (λG=>by
   have:(!t.plain&&decide (es.size > 1))=γ:=G;simp at this;omega)]
  refine ai ?_;wp_delta;rw[ak (by rw[p];simp)];refine ar ?_;refine ar ?_;have c:es.size=0\/es.size=1:=by omega
  rcases c with c|c
  .have B:=Array.eq_empty_of_size_eq_zero c;subst B;exact hN (by rw[h];rfl)
  .obtain⟨e,rfl⟩:=o8.1 c;obtain⟨j,l⟩:=o8.1 (fs.t c);rw[l];have J:=H.resolve_right λe=>by rw[a]at e;cases e
   have:i=0\/i=1:=by omega
   rcases this with rfl|rfl
   .rw[C U];show Q (match #[e][d8 #[j] 0]?,#[j][d8 #[j] 0]? with|some (_,x),Z j=>Z (x,j+1)|_,_=>O) s;rw[show d8 #[j] 0=0 from by simp[d8,qf]];exact hQ e.2 (j+1) (by rw[h];rfl) (.one a b p (λz=>by cases z) (λN _ m=>by rw[l]at m;cases m;rfl) h)
   .rw[F j U l];show Q (match #[e][d8 #[j] (j+1)]?,#[j][d8 #[j] (j+1)]? with|some (_,x),Z j=>Z (x,j+1)|_,_=>O) s;rw[show d8 #[j] (j+1)=1 from by simp[d8,qf]];exact hN (by rw[h];rfl)
def ItS.ty(x:ItS w I S TP ij o es ep t i s.heap):s.TypeIs (.ref I) "set_iterator" := let #v[#v[c,_,a,b,_],_,_,_]:=x;#v[c,a,b]
def ItS.ordlen(x:ItS w I S TP ij o es ep t i s.heap):ij.length=es.size:=by
 obtain⟨⟨l,first,_,_,_,j⟩,_,_,_⟩:=x;cases j with
 |txt c a=>rw[a,ae,(Kc _ es).length_eq,bZ]
 |drw c a d e f b h=>rw[h,(b.filterMap _).length_eq];have:=lp es;rw[show (aC es.size).filterMap (λp=>es[p]?.map cc)=((aC es.size).filterMap λp=>es[p]?).map cc from(pU ..).symm,this,ae,bZ]
 |one c a d e f b=>rw[b,ae,bZ]
theorem Ub{b d:Type}(f:b->Option d):∀(a:List b),(∀p∈a,∃v,f p=Z v)->∀i:Nat,(a.filterMap f)[i]?=a[i]?.bind f
 |[],_,i=>rfl
 |p::a,h,i=>by
  obtain⟨v,e⟩:=h p ba;rw[eU,e];cases i with
  |zero=>show Z v=f p;rw[e]
  |succ i=>exact Ub f a (λq c=>h q (a9 _ c)) i
def Md.mv(m:Md w h S TP i ij es ep t (.int j l)):Md w p S TP i ij es ep t (.int j l):=by
 cases m with
 |txt a b=>exact .txt a b
 |one a b c d e f=>exact .one a b c d e f
def Pw{B:aR}{R:Fin->af->Prop}{a:af}{Q:Option ab->af->Prop}(c:B.handled=O)(hN:∀h',(∀b o,a.heap.get? b=Z o->h'.get? b=Z o)->Q O { a with heap:=h' }):
  ao (model prog w) B (do let e<-newExc (.type "StopIteration") [];raiseNew e) R (λe d=>ao (model prog w) A (do if<-isInstance e (.type "StopIteration")then pure O else throw e) Q E d) a:=by
 refine ai ?_;simp only[newExc,newTuple];refine ai (d5 ?_ (by size_fits));refine ai (wpAny_of_eq (by first|rfl|(simp only[firstArgMember];rfl)) ?_);refine d5 ?_ (by size_fits);simp only[raiseNew];refine ai (wpAny_handled ?_);rw[c];refine ai (ar (wpAny_throw ?_));refine ai (qC #v[_,bA _ U,U] isSubtype_stop ?_);exact ar (hN _ λb o e=>aT _ (aT _ e))
def Uc(C:A.handled=O)(x:ItS w I S TP ij o es ep t i s.heap)(hi:i<=ij.length)(hS:S≠I)(hT:TP≠I)
  (hQ:∀v h',ij[i]?=Z v->eh I s.heap h'->ItS w I S TP ij o es ep t (i+1) h'->Q (Z v) { s with heap:=h' }) (hN:∀h',ij[i]?=O->Heap.ExtBut I s.heap h'->Q O { s with heap:=h' }):
  ao (model prog w) A (pyNext (.ref I)) Q E s:=by
 have H:=x.ordlen;obtain⟨G,first,hoi,hci,hdi,hm⟩:=x.it;refine ai (wpAny_attempt (lu x.ty zr (fM zr x.ty JK ?_ (Lc _))));show ao _ _ (fieldsOf (.ref I)>>=_) _ _ s;refine ai (wpAny_fieldsOf hoi hdi ?_);refine ai ?_;refine ai (dA x.f? x.d x.f ?_);refine ar ?_;rw[ak (by simp)];simp only[gr];have byint:∀(sl:Int) (tk:Tok),first=.int sl tk->(i<=1\/w.params.followText "set-order" = γ)->ao (model prog w) A.in1 (do
   let r<-setNext S sl.toNat i ep
   match r with
    |some (x,next)=>do
     setField (Value.ref I) 0 (rawInt ↑next)
     setField (Value.ref I) 1 (rawInt (↑i+1))
     ret x
    |none=>do
     setField (Value.ref I) 2 Value.none
     let e<-newExc (Value.type "StopIteration") []
     raiseNew e) (λfin z=>∃v,fin=Fin.done (Flow.ret v)/\ao (model prog w) A (pure (Z v)) Q E z) (λe z=>ao (model prog w) A (do if<-isInstance e (.type "StopIteration")then pure O else throw e) Q E z) s:=λsl tk e y=>by
  subst e;refine ai (Om x hm y (λv nx a m=>?_) λa=>?_)
  .refine ai (ir hoi hdi (by simp) ?_);have g1:=gm (gM (·.setIfInBounds 0 (rawInt (nx:Int)))) hoi (jN (fL hdi _))
   have d1:=fL hdi (·.setIfInBounds 0 (rawInt (nx:Int)))
   refine ai (ir g1 d1 (by simp) ?_);have g2:=gm (gM (·.setIfInBounds 1 (rawInt ((i:Int)+1)))) g1 (jN (fL d1 _))
   have d2:=fL d1 (·.setIfInBounds 1 (rawInt ((i:Int)+1)))
   have h:=(dF s.heap I (gM (·.setIfInBounds 0 (rawInt (nx:Int))))).t (dF _ I (gM (·.setIfInBounds 1 (rawInt ((i:Int)+1)))))
   refine ar #v[v,U,ar (hQ v _ a h #v[#v[_,.int nx 0,g2,(mE ..).t ((mE ..).t hci),?_,m.mv],?_,x.d,x.f])]
   .rw[d2];simp[rawInt]
   .rw[h.2 S hS];exact x.f?
  .refine ai (ir hoi hdi (by simp) ?_);exact Pw (by simp[C]) λh' k=>hN h' a λb o hb e=>k b o (by rw[(dF ..).2 b hb];exact e)
 cases hm with
 |txt h1 h2=>exact byint _ _ U (.inr h1)
 |one h1 h2 h3 h4 h5 h6=>exact byint _ _ U (.inl (by omega))
 |@drw ps vs ot nt h1 h2 h3 h4 h5 h6 h7=>
  refine ai (mS h2 h4 ?_);have B:∀p∈ps,∃v,(es[p]?.map cc)=Z v:=λp F=>by have:=bB.1 (h6.mem_iff.1 F);exact#v[es[p].2,by rw[jG this];rfl]
  have j:ij[i]?=ps[i]?.bind λp=>es[p]?.map cc:=by rw[h7];exact Ub _ ps B i
  have a:vs[i]?=ps[i]?.map λp:Nat=>rawInt p:=by rw[h5,jM,bg]
  cases c:ps[i]? with
  |none=>
   rw[c]at a j;dsimp only;rw[a];refine ai (ir hoi hdi (by simp) ?_);have g1:=gm (gM (·.setIfInBounds 0 (rawInt 0))) hoi (jN (fL hdi _))
   have d1:=fL hdi (·.setIfInBounds 0 (rawInt 0))
   refine ai (ir g1 d1 (by simp) ?_);exact Pw (by simp[C]) λh' k=>hN h' j λb o hb e=>k b o (by rw[(dF ..).2 b hb,(dF ..).2 b hb];exact e)
  |some p=>
   rw[c]at a j;obtain⟨v,l⟩:=B p (bV c);dsimp only;rw[a];show ao _ _ (setNextDrawn S (p:Int).toNat ep>>=_) _ _ s;rw[gr];refine ai ?_;refine ai (dA x.f? x.d x.f ?_);dsimp only;rw[ak (by simp)];cases u:es[p]? with
   |none=>rw[u]at l;cases l
   |some q=>
    rw[u]at l;refine ar ?_;refine ai (ir hoi hdi (by simp) ?_);have g1:=gm (gM (·.setIfInBounds 1 (rawInt ((i:Int)+1)))) hoi (jN (fL hdi _))
    have d1:=fL hdi (·.setIfInBounds 1 (rawInt ((i:Int)+1)))
    have h:=dF s.heap I (gM (·.setIfInBounds 1 (rawInt ((i:Int)+1))))
    refine ar #v[_,U,ar (hQ _ _ (by rw[j];show es[p]?.map cc=_;rw[u];rfl) h #v[#v[_,.ref TP,g1,(mE ..).t hci,?_,.drw h1 (by rw[h.2 TP hT];exact h2) h3 h4 h5 h6 h7],?_,x.d,x.f])]
    .rw[d1];simp[rawInt]
    .rw[h.2 S hS];exact x.f?
end
def JL:entryFor table "set_iterator.__iter__" = Z fG.«dict_keyiterator.__iter__»:=ro (id':="dict_keyiterator.__iter__") (by kernel_rfl) U (by decide +kernel) (by kernel_rfl)
def Le(a:ab):argsOk "set_iterator.__iter__" #v[[a],[]]:=by unfold argsOk;rw[rK (id:="set_iterator.__iter__") (n:=['_','_','r','e','t','i','_','_']) (o:=['r','o','t','a','r','e','t','i','_','t','e','s']) (by kernel_rfl) MU];kernel_rfl
section
variable{prog:aL}{w:aE}{A:aR}{E:ab->af->Prop}{s:af}{I S TP:Addr}{ij:List ab}{o:Obj}{es:Array (Int×ab)}{ep:Nat}{t:bS}
def Md.at{h':Heap}(m:Md w h S TP i ij es ep t f)(k:∀o,h.get? TP=Z o->h'.get? TP=Z o):Md w h' S TP i ij es ep t f:=by
 cases m with
 |txt a b=>exact .txt a b
 |one a b c d e j=>exact .one a b c d e j
 |drw a b c d e j l=>exact .drw a (k _ b) c d e j l
def acq(j:A.handled=O)(hS:S≠I)(hT:TP≠I):Walks prog w A I [I,S,TP] [I] ij.length (λi v=>ij[i]?=Z v) (λi h=>ItS w I S TP ij o es ep t i h/\i<=ij.length) where
 sub:=λb hb=>by simp at hb;simp[hb]
 frame:=λi h h' st c=>by obtain⟨⟨⟨l,f,h1,h2,h3,hm⟩,h4,h5,h6⟩,h7⟩:=st;exact#v[#v[#v[l,f,c I (by simp) _ h1,h2,h3,hm.at λo e=>c TP (by simp) o e],c S (by simp) _ h4,h5,h6],h7]
 item:=λi s Q E hi st hQ=>Uc j st.1 st.2 hS hT (λv h' a m x=>hQ v h' s.toks a #v[x,by omega] λb o hb e=>by rw[m.2 b λz=>hb (by simp[z])];exact e) λh' d _=>by rw[aO hi]at d;cases d
 done:=λs Q E st hQ=>Uc j st.1 st.2 hS hT (λv h' a _ _=>by rw[gj (aI _)]at a;cases a) λh' _ k=>hQ h' s.toks λb o hb e=>k b o (λz=>hb (by simp[z])) e
 self:=λi s Q E st h=>by refine qg st.1.ty FI (fM FI st.1.ty JL ?_ (Le _));show ao _ _ (ret (.ref I)) _ _ s;exact ar #v[_,U,"set_iterator", _,st.1.ty,zr.lookup,h]
end
end L4
namespace L4
open PySem PySem.Spec PySem.Calls PyProof.Rows PySem.W L2 L3
section
variable{prog:aL}{w:aE}{A:aR}{E:ab->af->Prop}{s:af}
abbrev TkS(k:aB):List d?:=k.map Sum.inr
end
section
variable{X:Cx}{G:Bg}{H:Hp}{pins:cO}{σ:St}{s:af}
def b0.drw(I:b0 X pins σ H s)(d:Drawn):b0 X pins σ H { s with drawn:=d }:=#v[I.ok,I.os,I.i2,I.a5,I.A6,I.cell,I.free,I.kb,I.Dx,I.ew,I.len]
def setP{A:aR}{L:List (aB×Addr)}(I:b0 X pins σ H s)(hh:A.handled=O)(hu:A.units+8<cLine)(c:e8 X.K H a (L.map λq=>V.ref q.2))(h8:L.length<=8)(nd:(L.map cp).Nodup)
  (N:∀q∈L,∃p r,q.1=[p,r]/\e? X.K H q.2 [.str p,.str r])
  (h:∀h2 f o es ep t,La h2 s.heap.objs.size (L.map λq=>(TkS q.1,q.2)) (!X.w.params.followText "set-order") L.length o es ep t->(∀b o,b<s.heap.objs.size->s.heap.get? b=Z o->h2.get? b=Z o)->Q (.ref s.heap.objs.size) { s with heap:=h2,toks:=f }):
  ao (model X.prog X.w) A (call (.type "set") [.ref a]) Q E s:=by
 have h3:A.in1.in1.in1.handled=O:=by simp[hh]
 obtain⟨d,r,pp,_⟩:=I.list c;obtain⟨o,l,C,n,hd⟩:=pp.isList;have hne:=bj (fi (bb l));have tk:∀q∈L,TK X.prog X.w s.heap (TkS q.1) q.2:=λq c=>by obtain⟨p,r,e,h1⟩:=N q c;rw[e];exact aen I h1
 have J:=by have:=r.length;rw[ae]at this;exact this
 have ev:∀(i:Nat) (v:ab),d[i]?=Z v->∃q,L[i]?=Z q/\v=.ref q.2:=λi v e=>by
  have hi:i<L.length:=by rw[J];exact(bY.1 e).1
  obtain⟨u,j,ru⟩:=r.get (by rw[bg,aO hi];rfl);rw[e]at j;cases j;exact#v[L[i],aO hi,ru]
 have notin:s.heap.objs.size∉[s.heap.objs.size+1,a]:=by
  intro z;rcases aM.1 z with z|z
  .exact aq z (bj (dJ _))
  .exact aq (bu.1 z) (gO (bb l))
 let PS:=λh2=>∃o es ep t,La h2 s.heap.objs.size (L.map λq=>(TkS q.1,q.2)) (!X.w.params.followText "set-order") L.length o es ep t;refine Fu (PS:=PS) l C mT lI (by decide)
  (λA Q E s1 e k=>ig #v[o,e,C,n,hd] k) (λtk' R hR=>?_) λh2 f #v[o,es,ep,t,x] kk=>h h2 f o es ep t x kk
 have F:∀{b:Addr} {P:Obj},s.heap.get? b=Z P->((s.heap.push (AM (!X.w.params.followText "set-order"))).push { cls:=.type "list_iterator", data:=.fields #[.ref a,.int 0 0] }).get? b=Z P:=λe=>aT _ (aT _ e);have it:((s.heap.push (AM (!X.w.params.followText "set-order"))).push { cls:=.type "list_iterator", data:=.fields #[.ref a,.int 0 0] }).get? (s.heap.objs.size+1)=Z { cls:=.type "list_iterator", data:=.fields #[.ref a,.int 0 0] }:=by rw[show s.heap.objs.size+1=(s.heap.push (AM (!X.w.params.followText "set-order"))).objs.size from(c9 _ _).symm];exact bA _ U
 refine Rm (led:=!X.w.params.followText "set-order") (js h3 _ a hne d.toArray).toS notin (by show A.units+1+1+1<cLine;omega) (L.map λq=>(TkS q.1,q.2)) (by rw[ae,bp,J]) (by rw[bp];omega) ?_ ?_ ?_ ?_ (d.toArray.size - 0) 0 _ (AM (!X.w.params.followText "set-order")) #[] 0 (.fresh 0 0 (!X.w.params.followText "set-order")) U (bR _) #v[#v[_,it,U,U],#v[o,F l,C,n,hd]] ?_ ?_ λs2 o2 B m t2 mv M=>?_
 .rw[aY,show (cp∘λq:aB×Addr=>(TkS q.1,q.2))=λq=>TkS q.1 from U];have:(L.map λq=>TkS q.1)=(L.map cp).map TkS:=by rw[aY];rfl
  rw[this];exact vm _ (λx y hxy e=>hxy ((List.map_inj_right λ_ _ h=>kh h).1 e)) nd
 .intro q c;obtain⟨r,hr,rfl⟩:=au.1 c;obtain⟨p,z,e,_⟩:=N r hr;exact#v[p,[.inr z],by show TkS r.1=_;rw[e];rfl]
 .intro q c z;obtain⟨r,hr,rfl⟩:=au.1 c;obtain⟨ob,_,_,e,_⟩:=tk r hr;have:=bb e;rcases aM.1 z with z|z
  .exact aq z (bj this)
  .exact aq (bu.1 z) (bj (fi this))
 .intro i v e;rw[jM]at e;obtain⟨q,S,j⟩:=ev i v e;exact#v[(TkS q.1,q.2),by rw[bg,S];rfl,j]
 .intro q c;obtain⟨r,hr,rfl⟩:=au.1 c;exact(tk r hr).fh λo=>F
 .exact#v[aT _ (bA _ U),#v[U,U,U],U,#v[7,#v[U,U,U],.inl #v[U,by decide]],U,λz=>aq z (by decide),.nil]
 .obtain⟨h2,g2,d2,f,o2'⟩:=s2;have W:=mv.gens;have T:=mv.drawn;have Y:=mv.os;subst W T Y;have el:d.toArray.size=L.length:=by rw[bp,J]
  rw[el]at M;refine hR h2 f #v[o2,B,m,t2,M] λb o hb e=>mv.heap b o (λz=>?_) (F e);rcases aM.1 z with z|z
  .exact aq z (bj hb)
  .exact aq (bu.1 z) (bj (fi hb))
end
section
variable{X:Cx}{G:Bg}{H:Hp}{pins:cO}{σ:St}{s:af}
theorem Px:∀{b:br} {f:List aB} {h:bF},a6 G H b h->zH b=Z f->∃L:List (aB×Addr),h=L.map (λq=>V.ref q.2)/\f=L.map cp/\∀q∈L,∃p r,q.1=[p,r]/\e? G.K H q.2 [.str p,.str r]
 |[],f,h,r,e=>by cases e;unfold a6 at r;subst r;exact#v[[],U,U,λq o=>by cases o]
 |d::b,f,h,r,e=>by
  unfold zH at e;cases c:Rh d with
  |none=>rw[c]at e;cases e
  |some k=>
   cases i:zH b with
   |none=>rw[c,i]at e;cases e
   |some t=>
    rw[c,i]at e;cases e;unfold a6 at r;obtain⟨v,x,rfl,u,w⟩:=r;obtain⟨L,rfl,rfl,m⟩:=Px w i;obtain⟨a,p,q,rfl,rfl,l⟩:=ML u c;refine#v[([p,q],a)::L,U,U,λz j=>?_];rcases aM.1 j with rfl|j
    .exact#v[p,q,U,l]
    .exact m z j
end
noncomputable abbrev cS(s:Str):FE:=cC (.str s)
noncomputable abbrev a1(e:FE):FA:=ax e vP
section
variable{X:Cx}{G:Bg}{H:Hp}{pins:cO}{σ:St}{s:af}
def SrcG(K:aw)(H:Hp)(a:Addr)(n:Nat):Prop:=SrcO K H a n\/
 ∃L:List (aB×Addr),e8 K H a (L.map λq=>V.ref q.2)/\L.length<=8/\(L.map cp).Nodup/\(∀q∈L,∃p r,q.1=[p,r]/\e? K H q.2 [.str p,.str r])/\n=L.length
def aeD:SetV X SrcG:=by
 intro pins σ H s A E Q a n I c e b h;rcases b with b|⟨L,j,m,u,p,rfl⟩
 .exact aeo I c e b h
 .refine setP I c e j m u p λl q o i f t x r=>h l q #v[o,i,f,t,x.f?,x.ex,x.d,?_,x.fits (ae _),x.sz.t (ae _)] r;rw[x.sz,ae];unfold scanBound;omega
def GH(a:br):Option D:=match zH a with
 |some b=>if b.Nodup/\a.length<=8 then Z (.int a.length)else O
 |none=>O
set_option h true
def Ro(hK:X.K=G.K):∀{c d f b a j},GH c=Z d->e8 X.K b a j->a6 G f c j->vX f b->∃n:Nat,SrcG X.K b a n/\d=.int n:=λ{c d f b a j} e i l s=>by
 unfold GH at e;cases h:zH c with
 |none=>simp only[h]at e;cases e
 |some w=>
  simp only[h]at e;split at e
  .rename_i u;cases e;obtain⟨L,rfl,rfl,t⟩:=Px l h;have o:=vH l;rw[ae]at o;refine#v[_,.inr #v[L,i,by omega,u.1,λq i=>?_,o],U];obtain⟨p,r,e,m⟩:=t q i;rw[<-hK]at m;exact#v[p,r,e,e?.mono s m]
  .cases e
end
set_option h false
section
variable{X:Cx}{B:Bz}{k:Nat}{e:Expr}{f:FE}{p p2 p3 pos:Pos}
def acr [C:Cz X B k][N:Nb B "len"][b:Nb B "set"](i:S1 X e)(h:Gz X "len")(a:Gz X "set")(d:ZE X B e f)(z:aF [Expr.Call (.Name "set" p2) [e] [] p3] X.a4=[(δ,eval (.Call (.Name "set" p2) [e] [] p3) X.a4)]):ZE X B (.Call (.Name "len" p) [.Call (.Name "set" p2) [e] [] p3] [] pos) (c1 (Fv GH) f):=#v[Od C.K .inl (Ro C.K) (Q5 aeD C.r.units C.c h (C.mg▸N.p) a (C.mg▸b.p) d.p z i)]
end
section
variable{X:Cx}{G:Bg}{C:Addr}{x:Str}{p pos:Pos}{e:Expr}{c:Nat}
structure Mk0(K:aw)(C:Addr):Prop where
 K?:makesIn K C=γ
 init:findIn K (.ref C) "__init__" = Z (Z (.builtin "object.__init__"))
 kp:keepIn K (.ref C)=γ
def Rp(M:Mk0 X.K C)(l:Gl X x)(m:X.mg x=Z (.ref C))(d:(x==("__debug__" : Str))=δ):PE X (.Call (.Name x p) [] [] pos) (λt H Q=>∀y a,H y=O->H a=O->a≠y->Q (.ref y) (ef (ef H a (.f5 y)) y (.ke C a []))):=by
 intro f s t H Q I h;refine d4 (E6 I l m ?_ d);refine mX I.ma M.kp ?_;have q:=h (s.heap.objs.size+1) s.heap.objs.size (I.ew.fresh (fW _)) (I.ew.fresh (aI _)) (bj (dJ _));have i:=b0.made (C:=C) I;have Y:=nN (M:=model X.prog X.w) I.ma M.K?;refine kq (Qv I.ma M.K? M.init (λself=>Looks.of_pure (oi_bind self)) ?_);have j:((s.heap.push emptyDict).push (instObj C s.heap.objs.size)).get? (s.heap.objs.size+1)=Z (instObj C s.heap.objs.size):=by rw[<-c9 s.heap emptyDict];exact bA _ U
 have r:Looks (model X.prog X.w) ((s.heap.push emptyDict).push (instObj C s.heap.objs.size)) (isInstance (.ref (s.heap.objs.size+1)) (.type "object")) γ:=
  ((Looks.ld j).andThen .now:Looks (model X.prog X.w) _ (typeOf (.ref (s.heap.objs.size+1))) (.ref C)).andThen (Y.top.keeps λb o e=>aT _ (aT _ e))
 refine pd oi_plain entry_oi (check_slot oi_kind oi_split r (oi_args _) ?_);rw[oi_run];exact ar (And.intro rfl #v[V.ref (s.heap.objs.size+1),_,i,rfl,q])
def cNew(c:Nat):FE:=λa=>Z (.obj c [] [],a)
def Rq(h:PE X e (λB H Q=>∀y a,H y=O->H a=O->a≠y->Q (.ref y) (ef (ef H a (.f5 y)) y (.ke (G.ca c) a [])))):PE X e (tF G (cNew c)):=PE.b? h λB H Q u=>by
 obtain⟨F,I,E,d,A,R,e,k⟩:=u;cases e;intro x a f hdx w;have j:(ef H a (.f5 x)) x=O:=by rw[vM (λz=>w z.symm)];exact f
 have m:vX H (ef (ef H a (.f5 x)) x (.ke (G.ca c) a [])):=(vV hdx _).t (vV j _);have R2:=R.fx m (λs s e=>e) (R.sub.t m) (λb o e=>.inl e);have l:=R.er f;have q:=R2.p5 vI l (R.fg f) (λi t r to z=>R.apart f i t r to z);refine k _ _ _ (vV l _) q ?_;unfold cm;exact#v[x,a,[],U,vI,U,wC]
end
section
variable{X:Cx}{B:Bz}{k:Nat}{p pos:Pos}{x:Str}{c:Nat}
class K0f(B:Bz)(x:Str)(c:Nat):Prop where p:Mk0 B.G.K (B.G.ca c)/\B.mg x=Z (.ref (B.G.ca c))
def acu [C:Cz X B k][Q:K0f B x c](a:Gz X x)(hd:(x==("__debug__" : Str))=δ):ZE X B (.Call (.Name x p) [] [] pos) (cNew c):=#v[Rq (Rp (by rw[C.K];exact Q.p.1) a (by rw[C.mg];exact Q.p.2) hd)]
end
end L4
namespace L4
open PySem PySem.Spec PyProof.Rows L2 L3
section
variable{X:Cx}{B:Bz}{k j i m:Nat}{x:Str}{e e':Expr}{es:List Expr}{d:D}{p pos:Pos}{g:D->D->Option D}
def aeE:ZB X B l QY:=#v[λa s f H D I h=>by
 obtain⟨F,c,b,o,R,e,_⟩:=h;cases e]
end
theorem Ct.mono(M:Ct G P w i a5 j m c h)(e:gW j k=γ):Ct G P w i a5 k m c h:=by obtain⟨f,d,l,a,b,c,F⟩:=M;exact#v[f,d,l,a,b,c,F.mono (gR.mp e)]
end L4
namespace HT
open PySem PySem.Spec PyProof.Rows
section
variable{prog:aL}{w:aE}{A:aR}{E:ab->af->Prop}{s:af}
def Ek{lo:Option Int}(a:fZ s.heap t items)(c:s.heap.IsSliceOf e i j .none)(pl:eK i lo)(f:eK j b)
  (d:e7 items.size 0 lo=0/\e7 items.size items.size b=items.size)
  (h:Q (.ref t) s):ao (model prog w) A (getItem (.ref t) (.ref e)) Q E s:=by
 obtain⟨os,hos,hcs,hds⟩:=id c;have hTs:s.TypeIs (.ref e) "slice" := #v[os,hos,hcs];unfold getItem
 try with_reducible refine cJ ?_
 first|refine ai (ar ?_)|skip
 refine ai (p9 a.typeIs (by decide) ?_);refine ai (lu (name:=kg "__getitem__") a.typeIs gb
  (fM gb a.typeIs pj ?_ (pM _ _)))
 show ao _ _ (oG (.ref t)>>=_) _ _ s;refine ai (rB a ?_);refine ai (iB hTs ?_);rw[aj (by decide)];refine ai (BY c pl f ?_);have hno:((((e7 items.size 0 lo:Nat):Int)==0&&(1:Int)==1&&(e7 items.size items.size b - e7 items.size 0 lo)==items.size)=γ):=by rw[d.1,d.2];simp
 show ao _ _ (if (((e7 items.size 0 lo:Nat):Int)==0&&(1:Int)==1&&(e7 items.size items.size b - e7 items.size 0 lo)==items.size)=γ then _ else _) _ _ s;rw[aj hno];refine ai (ai (iB a.typeIs (ar ?_)));rw[aj (by decide)];exact ai (gS (ar #v[_,U,ar h]))
end
end HT
namespace L2
open PySem PySem.Spec PyProof.Rows
section
variable{X:Cx}
def rSlU(K:aw):V->Option Int->Option Int->Hp->VK->Prop:=λx lo c H Q=>∃a b,x=.ref a/\e? K H a b/\
 ((HT.e7 b.length 0 lo=0/\HT.e7 b.length b.length c=b.length)->Q (.ref a) H)/\(¬(HT.e7 b.length 0 lo=0/\HT.e7 b.length b.length c=b.length)->∀p,H p=O->Q (.ref p) (ef H p (.a7 (KC b lo c))))
def Xt:SlR X (rSlU X.K):=by
 intro d s z H x v w y lo i u Q I p j pl o h;obtain⟨a,b,rfl,m,q,t⟩:=h;by_cases e:HT.e7 b.length 0 lo=0/\HT.e7 b.length b.length i=b.length
 .cases p;obtain⟨f,r,l,A⟩:=I.tuple m;have c:f.toArray.size=b.length:=by rw[bp];exact r.length.symm
  exact#v["tuple", _,gb.lookup,l.typeIs,HT.Ek l j pl o (by rw[c];exact e) #v[.ref a,H,I,U,q e]]
 .exact Sj d s z H _ v w y lo i u Q I p j pl o #v[a,b,U,m,e,t e]
end
end L2
namespace L4
open PySem PySem.Spec PyProof.Rows L2 L3
section
variable{X:Cx}{G:Bg}
def Lf(f:FE)(lo e:FO):FE:=λi=>match f i with
 |some (.a7 d,a)=>match lo a with
  |some (l,b)=>match e b with
   |some (h,c)=>Z (.a7 (fb d l h),c)
   |none=>O
  |none=>O
 |_=>O
set_option h true
def Rt{lo:FO}(h:PE X e (tSl (rSlU G.K) (tF G f) (tFO G lo) (tFO G W))):PE X e (tF G (Lf f lo W)):=PE.b? h λσ H Q T=>by
 obtain⟨F,ρ,y,d,ρ',R,e,k⟩:=T;unfold Lf at e;split at e
 .rename_i u t J;split at e
  .rename_i l c M;split at e
   .rename_i x ρ3 N;cases e;refine#v[F,ρ,y,_,_,R,J,λv z A s I r=>#v[F,t,z,l,c,I,M,λB C o R2=>#v[F,c,B,x,_,R2,N,λH3 E q b=>?_]]];have m:=cm.mono (o.t q) _ _ r;have Y:=m;unfold cm at m;obtain⟨a,ys,rfl,S,w⟩:=m;refine#v[a,ys,U,e?.mono b.sub S,λj=>?_,λ_ p i=>k _ _ _ ((s.t (o.t q)).t (vV (b.er i) _)) (b.wh i _) (D7 (e?.of vI) (a6.mono (vV (b.er i) _) _ _ (Fq w)))];have P:fb u l x=u:=by unfold fb;rw[<-vH w]at j;rw[j.1,j.2];simp
    rw[P]at k;exact k _ _ _ (s.t (o.t q)) b Y
   .cases e
  .cases e
 .cases e
set_option h false
def sl_U(hK:autoParam (X.K=G.K) zA0._auto_1):SlR X (rSlU G.K):=by rw[<-hK];exact Xt
end
section
variable{X:Cx}{B:Bz}{k j:Nat}{x:Str}{e e':Expr}{es:List Expr}{f f':FE}{a n:FA}{p pos:Pos}{g:br->br->Option (D×br)}
def acw{lo:Option Expr}{fl:FO}[C:Cz X B k](c:ZE X B e f)(i:ZO X B lo fl)(d:ZO X B h b):ZE X B (.Subscript e (.Slice lo h O p) pos) (Lf f fl b):=#v[Rt (Fd (sl_U C.K) c.p i.p d.p)]
end
mutual
def aeF:D->Bool
 |.U=>γ
 |.X _=>γ
 |.int _=>γ
 |.str _=>γ
 |.a7 a=>On a
 |.a3 a=>On a
 |_=>δ
def On:br->Bool
 |[]=>γ
 |d::a=>aeF d&&On a
end
section
variable{t:bS}{m n:Nat}
def tM(m:Nat):bS:=#v[m,#[],#[],0,δ,0,δ]
def Wy(m:Nat)(a:Nat->Prop)(j:Nat):Nat->fR->Prop
 |0,_=>False
 |f+1,p=>p.j=j\/(a p.j/\Wy m a j f ((tM m).advance p))
end
section
variable{κ α:Type}[DecidableEq κ]
def t9(l:List κ):List κ:=l.foldl (λacc k=>if k∈acc then acc else acc++[k]) []
set_option h true
theorem HQ:∀(l acc:List κ),acc.Nodup->(l.foldl (λacc k=>if k∈acc then acc else acc++[k]) acc).Nodup/\∀x,x∈l.foldl (λacc k=>if k∈acc then acc else acc++[k]) acc ↔ x∈acc\/x∈l
 |[],acc,h=>#v[h,λx=>#v[.inl,λh=>h.resolve_right (by simp)]]
 |k::l,acc,h=>by
  rw[jj];split
  .rename_i f;obtain⟨c,d⟩:=HQ l acc h;refine#v[c,λx=>(d x).t #v[λh=>h.imp id (a9 _),λh=>?_]];rcases h with h|h
   .exact .inl h
   .rcases aM.1 h with rfl|h
    .exact .inl f
    .exact .inr h
  .rename_i f;obtain⟨c,d⟩:=HQ l (acc++[k]) (cu.2 #v[h,dM.2 #v[cg,.nil],λa i b j e=>f (by rw[<-bu.1 j,<- e];exact i)]);refine#v[c,λx=>(d x).t ?_];rw[aZ,bu,aM,or_assoc]
set_option h false
def Ud(l:List κ):(t9 l).Nodup:=(HQ l [] .nil).1
def Lg{l:List κ}{x:κ}:x∈t9 l ↔ x∈l:=((HQ l [] .nil).2 x).t #v[λh=>h.resolve_left (by simp),.inr]
end
end L4
namespace L4
open PySem PySem.Spec PySem.Calls PyProof.Rows PySem.W L2 L3
section
variable{prog:aL}{w:aE}{A:aR}{E:ab->af->Prop}{s:af}
theorem Ru(h:Q 0xFCA86420 { s with toks:=s.toks+1 }):ao (model prog w) A (pyHash .none) Q E s:=by
 refine ai ?_;rw[cRoomFor,ak (by rw[show [Value.none].any Value.onHeap=δ from U];exact bH)];refine ar ?_;refine ai (ji (km s) jO.lookup ?_);rw[ak (by rw[beq_builtin_none];exact bH)];refine ai (ji (km s) jO.lookup ?_);refine ai (wpAny_callSpecialIfBoundUnlessNone?_slot (km s) jO
  (fM jO (km s) F.entry_NoneType_hash
   (show ao _ _ (do ret (<-mkInt 0xFCA86420)) _ _ s from wpAny_ret_mkInt ?_) (F.args_NoneType_hash_1 _)))
 exact ar h
def Xu(h:Q γ s):ao (model prog w) A (eqBool .none .none) Q E s:=by refine cJ ?_;rw[aj (show (Value.none==Value.none)=γ from U)];exact ai (gS (ar h))
def oIs:Option d?->ab->Bool
 |none,.none=>γ
 |none,_=>δ
 |some k,v=>HU k v
def AB(h:oIs k v=γ):(k=O/\v=.none)\/(∃i t,k=Z (Sum.inl i)/\v=Value.int i t)\/∃x t,k=Z (Sum.inr x)/\v=Value.str x t:=by
 cases k with
 |none=>cases v<;>first|exact .inl #v[U,U]|cases h
 |some k=>
  rcases xb h with ⟨i,t,rfl,rfl⟩|⟨x,t,rfl,rfl⟩
  .exact .inr (.inl #v[i,t,U,U])
  .exact .inr (.inr #v[x,t,U,U])
def K'(prog:aL)(w:aE):rp prog w (Option d?) where
 is:=oIs
 hash:=λk=>match k with|none=>0xFCA86420|some k=>keyH w k
 inj:=λv a b ha hb=>by rcases AB ha with ⟨rfl,rfl⟩|⟨i,t,rfl,rfl⟩|⟨x,t,rfl,rfl⟩<;>rcases AB hb with ⟨rfl,e⟩|⟨j,u,rfl,e⟩|⟨y,u,rfl,e⟩<;>first|rfl|(cases e;rfl)|cases e
 byValue:=λk v h=>by rcases AB h with ⟨rfl,rfl⟩|⟨i,t,rfl,rfl⟩|⟨x,t,rfl,rfl⟩<;>rfl
 pyHash:=λ{A E s k v Q} c h=>by
  cases k with
  |some k=>exact(v5 prog w).pyHash (k:=k) c h
  |none=>
   rcases AB c with ⟨_,rfl⟩|⟨i,t,e,_⟩|⟨x,t,e,_⟩
   .exact Ru h
   .cases e
   .cases e
 eqBool:=λ{A E s a b u v Q} d c h=>by
  rcases AB d with ⟨rfl,rfl⟩|⟨i,t,rfl,rfl⟩|⟨x,t,rfl,rfl⟩<;>rcases AB c with ⟨rfl,rfl⟩|⟨j,u,rfl,rfl⟩|⟨y,u,rfl,rfl⟩
  .exact Xu h
  .exact px j u _ _ _ _ h
  .exact pz y u _ _ _ _ h
  .exact pA i t _ _ _ _ h
  .exact(v5 prog w).eqBool (a:=Sum.inl i) (b:=Sum.inl j) d c (by simpa using h)
  .exact(v5 prog w).eqBool (a:=Sum.inl i) (b:=Sum.inr y) d c (by simpa using h)
  .exact pB x t _ _ _ _ h
  .exact(v5 prog w).eqBool (a:=Sum.inr x) (b:=Sum.inl j) d c (by simpa using h)
  .exact(v5 prog w).eqBool (a:=Sum.inr x) (b:=Sum.inr y) d c (by simpa using h)
 «strs»:=λk x t v h=>by
  cases k with
  |none=>cases h
  |some k=>exact(v5 prog w).strs k x t v h
def Xv{h:Heap}(m:h.MapOf (v5 prog w) a f):h.MapOf (K' prog w) a (λk=>match k with|none=>O|some k=>f k):=by
 obtain⟨o,p,l,q,r,u,j,y⟩:=m;refine#v[o,p,l,q,r,u,λe b=>?_,λk=>?_]
 .obtain⟨k,c,z⟩:=j e b;exact#v[Z k,c,z]
 .cases k with
  |some k=>exact y k
  |none=>
   unfold findBy;rw[Array.find?_eq_none.2 λe b=>?_]
   .rfl
   .obtain⟨k,c,_⟩:=j e b;rcases xb c with ⟨i,t,_,d⟩|⟨x,t,_,d⟩<;>(rw[d];exact bH)
end
section
variable{X:Cx}{G:Bg}{H:Hp}{pins:cO}{σ:St}{s:af}
def acx(I:b0 X pins σ H s)(e:Rd H a (.dK kvs))(h:∀c,b0 X pins σ H c->Q .none c):ao (model X.prog X.w) A (call (.builtin "dict.get") [.ref a,.none]) Q E s:=by obtain⟨z,hd,d,rel,b⟩:=G2 I.ew e;exact iC fP b.typeIs jg (mm _ _) (qY (K' X.prog X.w) a (k:=O) U hd) #v[_,Xv b.mapOf,h _ (I.ri _)]
def acy(d ty:TE):TE:=λσ H Q=>d σ H λx c=>∃a,x=.ref a/\IsD c a/\ty σ c λy b=>(∃o,pa b a y o/\Q (o.getD .U) b)\/(y=.U/\(∃kvs,Rd b a (.dK kvs))/\Q .U b)
def Ue(B:X.A.units+1<cLine)(z:PE X o R)(w:PE X e ty)(m:M1 X o "get" apos e cpos):PE X (.Call (.Attribute o "get" apos) [e] [] cpos) (acy R ty):=by
 intro pins s σ H Q I h;refine jU m.a5 m.few m.line jV fP mK (e3 (z pins s σ H _ I h) λu J c=>?_);obtain⟨x,r,l,F,a,t,d,E⟩:=c;subst t;obtain rfl:u=Value.ref a:=F;obtain⟨N,P,_⟩:=KM l d;refine#v[N,P,?_];rw[m.Dk];refine ib U (ie (eX (e3 (w pins J σ r _ l E) λC T c=>gq ?_)));obtain⟨y,j,p,q,⟨S,g,f⟩|⟨rfl,⟨kvs,e⟩,f⟩⟩:=c
 .exact Ss B p g q λW M b i=>#v[_,j,b,i,f]
 .obtain rfl:C=.none:=q;exact acx p e λM b=>#v[.U,j,b,U,f]
def MV:D->D->Option D:=λx y=>match y with
 |.U=>match x with
  |.i0 _ _=>Z .U
  |_=>O
 |y=>Dp x y
def Ug(hu:X.A.units+1<cLine)(ha:PE X a (tF G f))(hb:PE X b (tF G f'))(m:M1 X a "get" apos b cpos):PE X (.Call (.Attribute a "get" apos) [b] [] cpos) (tF G (c2 MV f f')):=PE.b? (Ue hu ha hb m) λσ H Q hh=>by
 obtain⟨F,ρ,P,d,C,R,e,k⟩:=hh;obtain⟨x,y,l,Y,e2,c⟩:=Fk e;cases x with
 |i0 M W=>
  refine#v[F,ρ,P,_,l,R,Y,λv S T B E r1=>?_];have t:=r1;obtain⟨p,ob,xs,rfl,r,h2,h3⟩:=t;refine#v[p,U,.inl #v[_,.inr #v[_,E.sub _ _ r]],F,l,S,y,C,E,e2,λu o h i R2 N=>?_];by_cases J:y=.U
  .subst J;cases c;subst N;exact .inr #v[U,#v[_,.inr #v[_,R2.sub _ _ (i _ _ r)]],k _ o h (B.t i) R2 Ak]
  .left;have c:=by
    unfold MV at c;split at c
    .exact aq U J
    .exact c
   unfold Dp at c;cases q:B4 y with
   |none=>simp only[q]at c;cases c
   |some j=>
    simp only[q]at c;cases c;have lv:=DI j (a6.mono i _ _ h3) h2;refine#v[zk (M.zip xs) j,?_,?_]
    .rw[Cv N q];exact pa.kf (R2.sub _ _ (i _ _ r))
    .cases I:xn M W j with
     |none=>rw[I]at lv k;rw[lv];exact k _ o h (B.t i) R2 Ak
     |some z=>rw[I]at lv k;obtain⟨w,w1,w2⟩:=lv;rw[w1];exact k _ o h (B.t i) R2 w2
 |_=>
  unfold MV at c;split at c
  .cases c
  .unfold Dp at c;cases c
end
section
variable{X:Cx}{B:Bz}{k:Nat}{e e':Expr}{f f':FE}{apos pos:Pos}
def acz [C:Cz X B k](d:ZE X B e f)(h:ZE X B e' f')(b:Az X e "get")(c:Ez apos pos)(a:S1 X e'):ZE X B (.Call (.Attribute e "get" apos) [e'] [] pos) (c2 MV f f'):=#v[Ug (Ma C.r) d.p h.p #v[b,by rw[a];rfl,c,by rw[a];rfl]]
end
section
variable{X:Cx}{G:Bg}
def dStrI:D->Option D
 |.int i=>if i.natAbs.log2<1920 then Z (.str (toString i))else O
 |_=>O
def iR2(f c:FE):FA:=λd=>match f d with
 |some (.int i,a)=>match c a with
  |some (.int j,b)=>if (-1000000<=i/\i<=1000000)/\-1000000<=j/\j<=1000000 then Z (Iw i (j - i).toNat,b)else O
  |_=>O
 |_=>O
set_option h true
def F?(h:PI X u e (Ym (qi G (ax f (ax r vP))))):PI X u e (L' G (iR2 f r)):=PI.b? h λN H R t=>by
 obtain⟨F,w,l,B,x,R,e,k⟩:=t;unfold iR2 at e;split at e
 .rename_i i y p;split at e
  .rename_i j z q;split at e
   .rename_i C;cases e;refine#v[F,w,l,[.int i,.int j],_,R,by unfold ax;rw[p];simp only[q];rfl,λM A m s o rs=>?_];unfold a6 at rs;obtain⟨v,E,rfl,d,c⟩:=rs;unfold a6 at c;obtain⟨J,I,rfl,b,a⟩:=c;unfold a6 at a;subst a;unfold cm at d b;subst d b;refine#v[i,j,U,#v[by omega,by omega,by omega,by omega],?_];exact k _ _ _ s o Mu
   .cases e
  .cases e
 .cases e
end
set_option h false
section
variable{X:Cx}{B:Bz}{k:Nat}{e e' tg:Expr}{f f':FE}{p p2 p3 pos apos:Pos}
def zr_r2I [C:Cz X B k][N:Nb B "range"](h:Gz X "range")(b:aF [e,e'] X.a4=[(δ,eval e X.a4),(δ,eval e' X.a4)])(a:S1 X e')(c:ZE X B e f)(d:ZE X B e' f'):ZI X B tg (.Call (.Name "range" p) [e,e'] [] pos) (iR2 f f'):=#v[F? (Qr h (C.mg▸N.p) (xE c.p (xE d.p yK a) (by rw[b,a])) b a)]
end
def tOr(t a:Ty->Option Bool):Ty->Option Bool:=λy=>match t y with
 |some γ=>match a y with
  |some _=>Z γ
  |none=>O
 |some δ=>a y
 |none=>O
def inst_or{c c':Ty}(h:∀y b,t y=Z b->cM G.K (y.val G) (c.val G)=Z b)(i:∀y b,f y=Z b->cM G.K (y.val G) (c'.val G)=Z b)(l:∀j b,t (.c j)=Z b->JF G.K (G.ca j)):Ph G [c,c'] (tOr t f):=by
 refine#v[λy b e=>?_,λj b e=>?_]
 .unfold tOr at e;show kitAny G.K (y.val G) [c.val G,c'.val G]=Z b;unfold kitAny;cases a:t y with
  |none=>simp only[a]at e;cases e
  |some v=>
   simp only[a]at e;rw[h y v a];cases v with
   |true=>
    cases d:f y with
    |none=>simp only[d]at e;cases e
    |some w=>simp only[d]at e;cases e;rfl
   |false=>simp only at e;unfold kitAny;simp only;rw[i y b e];cases b<;>rfl
 .unfold tOr at e;cases a:t (.c j)with
  |none=>simp only[a]at e;cases e
  |some v=>exact l j v a
section
variable{X:Cx}{B:Bz}{k:Nat}{e:Expr}{f:FE}{p p2 p3 p4 pos:Pos}{x y:Str}
def zr_i2I{h}[Q:Ic B x t][q:Ic B y F][C:Cz X B k][N:Nb B "isinstance"](w:Gz X "isinstance")(u:Gz X x)(j:Gz X y)(m:aF [e,.Tuple [.Name x p2,.Name y p3] h p4] X.a4=[(δ,eval e X.a4),(δ,eval (.Tuple [.Name x p2,.Name y p3] h p4) X.a4)])(a:S1 X (.Tuple [.Name x p2,.Name y p3] h p4))(l:aF [.Name x p2,.Name y p3] X.a4=[(δ,eval (.Name x p2) X.a4),(δ,eval (.Name y p3) X.a4)])(b:S1 X (.Name y p3))(r:ZE X B e f)(hd:Dz x)(i:Dz y):ZE X B (.Call (.Name "isinstance" p) [e,.Tuple [.Name x p2,.Name y p3] h p4] [] pos) (c1 (wX (tOr t F)) f):=by
 obtain⟨c,o,z⟩:=Q.p;obtain⟨d,A,E⟩:=q.p;refine#v[Tu (cs:=[.c c,.c d]) (Fb (Oa (inst_or (c:=.c c) (c':=.c d) o.1 A.1 o.2) C.K) w (C.mg▸N.p) mN (yx r.p (yx (Sa (yx (HJ (v:=.ref (B.G.ca c)) u (C.mg▸z) U hd) (yx (HJ (v:=.ref (B.G.ca d)) j (C.mg▸E) U i) AJ b) ?_)) AJ a) ?_) (by decide) (by decide) ?_ ?_) (by show 2<=1000;decide)]
 .rw[l,b]
 .rw[m,a]
 .rw[m,a]
 .rw[a];rfl
end
section
variable{P:aL}{w:aE}{mg:Str->Option ab}{a5:Heap}{G:Bg}{x:Str}
def GX(K:aw)(x s:Str):Prop:=∃t:Tok,nsIn K bN x=Z (Z (.str s t))
def P?(X:G.K.In h)(a:h.Ns bN mg)(e:nsIn G.K bN x=Z (Z (.str z t))):Bj G mg x (.str z):=
 #v[.str z,_,jv X a e,#v[_,U],λs=>Aj _]
def Yw.cx(y:Yw P w mg a5 G)(q:GX G.K x s):Bj G mg x (.str s):=by obtain⟨h,X,a⟩:=y.m;obtain⟨t,e⟩:=q;exact P? X a e
end
section
variable{X:Cx}{G:Bg}
theorem B'{K:aw}:∀{l:List L3.Dq} {f:bF} {c:List ab},L3.a6 K H l f->c6 f c->(∀u∈c,∃e∈l,∃x,L3.cm K H e x/\dd x u)/\∀e∈l,∃u∈c,∃x,L3.cm K H e x/\dd x u
 |[],f,c,r,v=>by unfold L3.a6 at r;subst r;cases v;exact#v[λu b=>(by cases b),λe a=>(by cases a)]
 |d::l,f,c,r,v=>by
  unfold L3.a6 at r;obtain⟨x,q,rfl,h,j⟩:=r;cases v with
  |cons i p=>
   obtain⟨m,o⟩:=B' j p;refine#v[λu b=>?_,λe a=>?_]
   .rcases aM.1 b with rfl|b
    .exact#v[d,ba,x,h,i]
    .obtain⟨e,a,z⟩:=m u b;exact#v[e,a9 _ a,z]
   .rcases aM.1 a with rfl|a
    .exact#v[_,ba,x,h,i]
    .obtain⟨u,b,z⟩:=o e a;exact#v[u,a9 _ b,z]
end
section
variable{X:Cx}{B:Bz}{k i:Nat}{e:Expr}{f:FE}{a:FA}{x:Str}{p p2 p3 pos apos:Pos}
def zr_xeI [C:Cz X B k](h:u2 X i x=γ)(d:Az X (.Name x p) "extend")(j:Ez apos pos)(b:S1 X e)(c:ZN X B e a):ZE X B (.Call (.Attribute (.Name x p) "extend" apos) [e] [] pos) (Ir i a):=
 #v[QO (bmI d j b je jR pT QB (Kx h) (yx c.p AJ b))]
end
def sOf:ab->Str
 |.str x _=>x
 |_=>""
structure g?(w:aE)(h:Heap)(S:Addr)(ss:aB)(led:Bool)(o:Obj)(es:Array (Int×ab))(ep:Nat)(t:bS):Prop where
 f?:h.get? S=Z o
 ex:o.ExactSet
 d:o.data=.set es ep t
 f:t.fits es.size=γ
 led:t.led=led
 pl:0<ss.length->t.plain=δ
 el:∀e∈es.toList,∃x tk,e=(hashStr w x,Value.str x tk)
 p:(es.toList.map λe=>sOf e.2).Perm ss
def g?.sz{w:aE}{h:Heap}{S:Addr}{a:aB}{led:Bool}{o:Obj}{es:Array (Int×ab)}{ep:Nat}{t:bS}(x:g? w h S a led o es ep t):es.size=a.length:=by have:=x.p.length_eq;rw[ae,bZ]at this;exact this
set_option h true
def lay_led(t:bS)(a:Array (Int×ab))(h:Int)(x:ab):(layNew t a h x).2.1.led=t.led/\(t.plain=δ->(layNew t a h x).2.1.plain=δ):=by
 unfold layNew;split
 .rename_i b c e;show ((t.put b).1.orStandIn _).led=_/\(_->((t.put b).1.orStandIn _).plain=δ);unfold SetTable.orStandIn;split
  .exact#v[U,id]
  .exact#v[U,λs=>U]
 .exact#v[U,λs=>U]
def R'(t:bS)(a:Array (Int×ab))(n:Nat):(relayAll t a n).2.1.led=t.led/\(t.plain=δ->(relayAll t a n).2.1.plain=δ):=by
 unfold relayAll;split
 .rename_i c order e;obtain⟨b,_,e⟩:=Option.bind_eq_some_iff.1 e;cases e;dsimp only;split
  .exact#v[U,id]
  .exact#v[U,λs=>U]
 .exact#v[U,λs=>U]
section
variable{prog:aL}{w:aE}{A:aR}{E:ab->af->Prop}{s:af}{S:Addr}{o:Obj}{es:Array (Int×ab)}{ep:Nat}{t:bS}{ss:aB}{led:Bool}
set_option h false
def g?.elems(x:g? w s.heap S ss led o es ep t):ElemsOf (fB prog w) es.toList:=λe a=>by obtain⟨z,b,rfl⟩:=x.el e a;exact#v[#v[z,by simp[fB,iu],U],U]
def g?.mem(x:g? w s.heap S ss led o es ep t)(z:Str):z∈ss ↔ ∃e∈es.toList,(fB prog w).is z e.2=γ:=by
 rw[<-x.p.mem_iff,au];constructor
 .rintro⟨e,a,rfl⟩;obtain⟨y,b,rfl⟩:=x.el e a;exact#v[_,a,by simp[fB,iu,sOf]]
 .rintro⟨e,a,h⟩;obtain⟨y,b,rfl⟩:=x.el e a;exact#v[_,a,by simpa [fB,iu,sOf]using h]
def g?.stored(x:g? w s.heap S ss led o es ep t){a:Array (Int×ab)}{c:bS}{b:aB}(f:c.fits a.size=γ)(l:c.led=led)(pl:0<b.length->c.plain=δ)(el:∀e∈a.toList,∃x tk,e=(hashStr w x,Value.str x tk))(p:(a.toList.map λe=>sOf e.2).Perm b):
  g? w (s.heap.update S (ky a c)) S b led { o with data:=.set a (ep+1) c } a (ep+1) c:=
 #v[Ob x.f? x.d,x.ex,U,f,l,pl,el,p]
def ψ{g:Bool->Sem Unit}(hg:∀(b:Bool) (i:af) (C:Unit->af->Prop),C () i->ao (model prog w) A (g b) C E i)(X:g? w s.heap S ss led o es ep t)
  {a:Array (Int×ab)} {c:bS} {m:aB} (f:c.fits a.size=γ) (l:c.led=led) (pl:c.plain=δ) (el:∀e∈a.toList,∃x tk,e=(hashStr w x,Value.str x tk)) (p:(a.toList.map λe=>sOf e.2).Perm m) (hb:a.size<scanBound)
  {wasDummy:Bool} {R:Option Bool->af->Prop} (h:∀h' H y u I,eh S s.heap h'->g? w h' S m led H y u I->R (Z γ) { s with heap:=h' }):
  ao (model prog w) A (do
    storeSet S a c
    if (!wasDummy&&c.tooFull)=γ then do
      g (relayAll c a (d9 a.size)).2.2
      storeSet S (relayAll c a (d9 a.size)).1 (relayAll c a (d9 a.size)).2.1
      pure (Z γ)
     else pure (Z γ)) R E s:=by
 refine ai (jW X.f? X.d ?_ (qh hb));have q:=X.stored f l (λ_=>pl) el p;have hsb1:=dF s.heap S (ky a c);split
 .have j:=relayAll_perm c a (d9 a.size);have hfr:=relayAll_fits c a (d9 a.size);have r:=R' c a (d9 a.size);generalize relayAll c a (d9 a.size)=F at j hfr r ⊢;obtain⟨z,J,gave2⟩:=F;dsimp only at j hfr r ⊢;have B:z.size=a.size:=by rw[<-bZ,j.length_eq,bZ]
  refine ai (hg _ _ _ ?_);refine ai (jW q.f? q.d ?_ (qh (by rw[B];exact hb)));exact ar (h _ _ _ _ _ (hsb1.t (dF _ S _)) (g?.stored q hfr (r.1.t l) (λ_=>r.2 pl) (λe G=>el e (j.mem_iff.1 G)) ((j.map _).t p)))
 .exact ar (h _ _ _ _ _ hsb1 q)
set_option h true
def add_x(X:g? w s.heap S ss led o es ep t)(hb:ss.length+1<scanBound)
  (h1:x∈ss->Q δ s)
  (h2:x∉ss->∀h' m h c q,eh S s.heap h'->g? w h' S (ss++[x]) led m h c q->Q γ { s with heap:=h' }):ao (model prog w) A (setAddHashed S (.str x tk) (hashStr w x)) Q E s:=by
 have sz:=X.sz;have hkey:(fB prog w).is x (.str x tk)=γ:=by simp[fB,iu]
 refine cJ (ai (dA X.f? X.d X.f ?_));dsimp only;rw[byScan_of (knd:=fB prog w) U (by omega) X.elems];simp only[↓reduceIte];refine ai ?_;refine ai (gS ?_);refine ai (wpAny_setScan_of hkey X.f? X.d X.f X.elems ?_);cases hr:List.findIdx? (λe=>(fB prog w).is x e.2) es.toList with
 |some j=>obtain⟨G,hpj,_⟩:=List.findIdx?_eq_some_iff_getElem.1 hr;exact ar (ar (h1 ((X.mem x).2 #v[es.toList[j],fj G,hpj])))
 |none=>
  dsimp only;have nin:x∉ss:=λI=>by obtain⟨e,i,H⟩:=(X.mem x).1 I;have:=List.findIdx?_eq_none_iff.1 hr e i;rw[H]at this;exact Bool.noConfusion this
  have hgw:∀(b:Bool) {a:af} {r:Unit->af->Prop},r () a->ao (model prog w) A (match b with|true=>rule "set.scan.the-table-gave-way" |false=>pure ()) r E a:=
   λb a r l=>by cases b<;>first|exact ar l|exact gS l
  have hperm:=layNew_perm t es (hashStr w x) (.str x tk);have hfits:=layNew_fits t es (hashStr w x) (.str x tk);have hled:=lay_led t es (hashStr w x) (.str x tk);generalize layNew t es (hashStr w x) (.str x tk)=L at hperm hfits hled ⊢;obtain⟨y,J,wasDummy,gave⟩:=L;dsimp only at hperm hfits hled ⊢;rw[mC]at hperm;have u:∀e∈y.toList,∃x tk,e=(hashStr w x,Value.str x tk):=λe i=>by
   rcases aZ.1 (hperm.mem_iff.1 i)with i|i
   .exact X.el e i
   .rw[bu]at i;exact#v[x,tk,i]
  have F:=by have:=hperm.map λe:Int×ab=>sOf e.2;rw[aX]at this;exact this.t (X.p.append_right _)
  have z:y.size<scanBound:=by rw[<-bZ,hperm.length_eq,aA,bZ,sz];exact hb
  refine ai (hgw _ ?_);have end_:∀(h':Heap) (m:Obj) (h:Array (Int×ab)) (c:Nat) (q:bS),eh S s.heap h'->g? w h' S (ss++[x]) led m h c q->Q γ { s with heap:=h' }:=h2 nin;split
  .refine ai ?_;rw[hashByValue_scannable 8 U];refine ar ?_;refine ψ ?_ X (SetTable.fits_plain_off hfits) (hled.1.t X.led) U u F z ?_
   .intro b a r l;cases b<;>first|exact ar l|exact gS l
   .intro h' m h c q C B;dsimp only;exact ar (end_ h' m h c q C B)
  .rename_i hpl;refine ai (ar ?_);simp only[↓reduceIte];refine ψ ?_ X hfits (hled.1.t X.led) (by simpa using hpl) u F z ?_
   .intro b a r l;cases b<;>first|exact ar l|exact gS l
   .intro h' m h c q C B;dsimp only;exact ar (end_ h' m h c q C B)
end
set_option h false
section
variable{prog:aL}{w:aE}{A:aR}{E:ab->af->Prop}{s:af}{S:Addr}{o:Obj}{es:Array (Int×ab)}{ep:Nat}{t:bS}
theorem iter_X(x:g? w s.heap S ss (!w.params.followText "set-order") o es ep t)(B:ss.length<64)
  (hQ:∀(h':Heap) (I TP:Addr) (ij:List ab) (d:Drawn),s.heap.objs.size<=I->I<h'.objs.size->TP≠I->(TP=S\/s.heap.objs.size<=TP)->(∀b o,s.heap.get? b=Z o->h'.get? b=Z o)->ItS w I S TP ij o es ep t 0 h'->ij.Perm (es.toList.map cc)->Q (.ref I) { s with heap:=h',drawn:=d }):
  ao (model prog w) A (pyIter (.ref S)) Q E s:=by
 have hf:=x.f;have ty:s.TypeIs (.ref S) "set" := #v[o,x.f?,x.ex.1];have hlt:=bb x.f?;refine qg ty qP (fM qP ty Ld ?_ (F.args_set_iter_1 _));refine ai (ar ?_);refine ai ?_;refine ai (ai (dA x.f? x.d hf (ar ?_)));refine ar ?_;refine ai ?_;refine ai (dA x.f? x.d hf ?_);refine ai (GF ?_);refine ar ?_;have plain0:(w.params.followText "set-order" = γ\/(w.params.followText "set-order" = δ/\es.size<=1))->ao (model prog w) A.in1 (do
   let first<-pure (rawInt 0)
   let e<-setEpoch S;let r<-newFields "set_iterator" [first,rawInt 0,Value.ref S,rawInt ↑es.size,rawInt ↑e]
   ret r) (λfin i=>∃v,fin=Fin.done (Flow.ret v)/\∃a r,i.TypeIs v a/\typeLookup (Value.type a) (kg "__next__")=pure (Z r)/\Q v i) E s:=λc=>by
  refine ai (ar ?_);refine ai (qj x.f? x.d hf ?_);refine ai (d5 ?_);have h:∀(l:Obj) (b:Addr) (o:Obj),s.heap.get? b=Z o->(s.heap.push l).get? b=Z o:=λl b o e=>aT _ e;have it:∀ij,Md w (s.heap.push { cls:=.type "set_iterator", data:=.fields [rawInt 0,rawInt 0,Value.ref S,rawInt ↑es.size,rawInt ↑ep].toArray }) S S 0 ij es ep t (.int 0 0)->ij.Perm (es.toList.map cc)->_:=λij m p=>ar (M:=model prog w) (A:=A.in1) (E:=E) (Q:=λfin i=>∃v,fin=Fin.done (Flow.ret v)/\∃a r,i.TypeIs v a/\typeLookup (Value.type a) (kg "__next__")=pure (Z r)/\Q v i) #v[.ref s.heap.objs.size,U,"set_iterator", _,#v[_,bA _ U,U],zr.lookup,hQ _ s.heap.objs.size S ij s.drawn (aI _) (by rw[c9];exact dJ _) (bj hlt) (.inl U) (h _) #v[#v[_,.int 0 0,bA _ U,U,U,m],h _ _ _ x.f?,x.d,hf] p];rcases c with c|⟨c1,c2⟩
  .exact it _ (.txt c U) ((Kc _ es).map _)
  .exact it _ (.one c1 c2 (by rw[x.led,c1];rfl) (λ_=>U) (λj e=>by cases e) U) (.refl _)
 cases c:w.params.followText "set-order" with
 |true=>rw[ak (by simp)];exact plain0 (.inl c)
 |false=>
  by_cases h1:es.size<=1
  .rw[ak λy=>by
    have:(!δ&&(!t.plain&&decide (es.size > 1)))=γ:=y;simp at this;omega]
   exact plain0 (.inr #v[c,h1])
  .have pl:=x.pl (by have:=x.sz;omega);rw[aj (by show (!δ&&(!t.plain&&decide (es.size > 1)))=γ;rw[pl];simp;omega)];refine ai (Pu es.size _ s bL λz d p=>?_);refine ai (ra ?_ (by
    rw[ae,p.length_eq,bL,x.sz,bX];omega))
   refine ai (qj (aT _ x.f?) x.d hf ?_);refine ai (d5 ?_);have h:∀(q u:Obj) (b:Addr) (o:Obj),s.heap.get? b=Z o->((s.heap.push q).push u).get? b=Z o:=λq u b o e=>aT _ (aT _ e);have ij:(z.filterMap λp=>es[p]?.map cc).Perm (es.toList.map cc):=by refine(p.filterMap _).t ?_;rw[show (aC es.size).filterMap (λp=>es[p]?.map cc)=((aC es.size).filterMap λp=>es[p]?).map cc from(pU ..).symm,lp]
   refine ar #v[_,U,"set_iterator", _,#v[_,bA _ U,U],zr.lookup,hQ _ _ s.heap.objs.size _ d ?_ ?_ ?_ (.inr (aI _)) (h _ _) #v[#v[_,.ref s.heap.objs.size,bA _ U,U,U,.drw c (aT _ (bA _ U)) U U U p U],h _ _ _ _ x.f?,x.d,hf] ij]
   .rw[c9];exact fW _
   .exact Nat.lt_of_lt_of_eq (dJ _) (c9 _ _).symm
   .rw[c9];exact bj (dJ _)
end
section
variable{prog:aL}{w:aE}{A:aR}{E:ab->af->Prop}{s:af}{S:Addr}{o:Obj}{es:Array (Int×ab)}{ep:Nat}{t:bS}{ss:aB}
def g?.fh{h h':Heap}{led:Bool}(x:g? w h S ss led o es ep t)(k:∀o,h.get? S=Z o->h'.get? S=Z o):g? w h' S ss led o es ep t:={ x with f?:=k _ x.f? }
theorem Q?(C:A.handled=O)(x:g? w s.heap S ss (!w.params.followText "set-order") o es ep t)(G:ss.length<64)
  (hQ:∀h2 d d2 acc,s.heap.objs.size<=h2.objs.size->(∀b o,s.heap.get? b=Z o->h2.get? b=Z o)->acc.Perm (es.toList.map cc)->Q acc { s with heap:=h2,toks:=d,drawn:=d2 }):ao (model prog w) A (collect (.ref S)) Q E s:=by
 have hlt:=bb x.f?;have H:es.size<=63:=by have:=x.sz;omega
 let lO:Obj:={ cls:=.type "list", data:=.seq ([]:List ab).toArray };refine ai (qZ (d7 F.entry_proto_collect ?_));rw[eQ F.plain_proto_collect _];refine ai (d5 ?_);refine ar #v[gL qk _,d7 F.entry_list_iadd ?_];rw[eQ qk _];show ao _ A.in1 (tT (.ref s.heap.objs.size) (.ref S) (.ref s.heap.objs.size)) _ _ _;have h:(s.heap.push lO).objs.size=s.heap.objs.size+1:=c9 _ _;have l:g? w (s.heap.push lO) S ss (!w.params.followText "set-order") o es ep t:=x.fh λo e=>aT _ e;have q:mZ { s with heap:=s.heap.push lO } (.ref S) "set" := #v[o,l.f?,x.ex.1];refine ai (iB q ?_);rw[ak (by
  have:oO (.ref s.heap.objs.size) (.ref S)=δ:=by simp[oO];exact λe=>aq e (gO hlt)
  rw[this];decide)]
 refine ai (iter_X l G λh3 I TP ij r hI1 hI2 hTI hTP i it po=>?_);have hI:s.heap.objs.size+1<=I:=by rw[<-h];exact hI1
 have L3:=i _ _ (bA _ U);have a:mZ { s with heap:=h3,drawn:=r } (.ref S) "set" := #v[o,it.f?,x.ex.1];have m:=λb o e=>i b o (aT _ e);refine ai (cJ ?_);refine ai (ji a F.slot_set_len.lookup ?_);generalize hid:("set.__len__" : String)=c;wp_delta;rw[show splitId c=Z ("set", "__len__") from by subst hid;decide +kernel];subst hid;refine ai (qC a sub_set_self ?_);rw[ak (by decide),aj (by decide +kernel)];refine ai (iB a ?_);refine ar ?_;rw[aj (by decide +kernel)];refine ai (gS ?_);refine ai ?_;refine ai (mM L3 U ?_);have f:=gm (eE (·.push Value.none)) L3 U
 refine mM f U ?_;have p:=gm (eE (·.pop)) f U
 have oth:∀b o,b≠s.heap.objs.size->h3.get? b=Z o->((h3.update s.heap.objs.size (eE (·.push Value.none))).update s.heap.objs.size (eE (·.pop))).get? b=Z o:=
  λb o hb e=>(iX _ _ (dR hb)).t ((iX _ _ (dR hb)).t e)
 have hSI:=bj (cz hlt (jY hI));have hSf:s.heap.objs.size∉[I,S,TP]:=by
  intro z;rcases aM.1 z with z|z
  .exact aq z (bj hI)
  .rcases aM.1 z with z|z
   .exact aq z (gO hlt)
   .rw[bu]at z;rcases hTP with e|e
    .exact aq (z.t e) (gO hlt)
    .rw[<-z,h]at e;exact aq e (Nat.not_succ_le_self _)
 have W:=acq (prog:=prog) (w:=w) (A:=A.in1) (ij:=ij) (o:=o) (es:=es) (ep:=ep) (t:=t) (by simp[C]) hSI hTI;have P:ij.length<=63:=by rw[po.length_eq,ae,bZ];exact H
 refine ar #v[gL F.plain_extend_loop _,codeAny_extend_loopS W.toS (by rw[bX];omega) _ hSf _ ij.length 0 _ _ _ U (bR _)
  (W.frame 0 h3 _ #v[it,bR _] λb hb o e=>oth b o (λz=>hSf (by rw[<-z];exact hb)) e) p (ItemsOf.nil _) λJ acc' M hm hS' hacc=>?_]
 refine ai (wpAny_load hS' ?_);have u:acc'.toList=ij:=by
  apply mj;intro j;cases e:acc'.toList[j]? with
  |none=>rw[List.getElem?_eq_none_iff,bZ,hacc.1]at e;exact(gj e).symm
  |some v=>rw[i7]at e;exact(hacc.2 j v e).symm
 obtain⟨h2,g2,d2,d,N⟩:=J;have y:=hm.gens;have B:=hm.os;subst y B;refine ar (hQ h2 d d2 acc'.toList (iz (bb hS')) (λb o e=>?_) (by rw[u];exact po));have hb:=bb e;exact hm.heap b o (λz=>by
  rcases aM.1 z with z|z
  .exact aq z (bj hb)
  .exact aq (bu.1 z) (bj (cz hb (jY hI)))) (oth b o (bj hb) (m b o e))
def S?(W:WalksS prog w A.in1 I fp m GG n PP SS)(hSf:S∉fp)(ks:aB)(hn:ks.length=n)(G:n<64)
  (hval:∀i v,PP i v->∃x tk,ks[i]?=Z x/\v=.str x tk):∀(k i:Nat) (s:af) (o:Obj) (es:Array (Int×ab)) (ep:Nat) (t:bS),n - i=k->i<=n->SS i s->g? w s.heap S (t9 (ks.take i)) led o es ep t->
   (∀c o es ep t,Moved (S::m) GG s c->g? w c.heap S (t9 ks) led o es ep t->R (.ok (.ret .none)) c)->
   cG (model prog w) A (.builtin "set.update.loop" #v[[.ref S,.ref I],[]]) R s:=by
 have hSw:=λz=>hSf ((W).sub _ z);have up:∀b∈m,b∈S::m:=λb z=>a9 _ z;intro k
 induction k with
 |zero=>
  intro i s o es ep t H hi hst x hR;obtain rfl:i=n:=by omega
  refine d7 ia ?_;rw[eQ dY _];refine ai (W.done s _ _ hst λc hm=>?_);rw[ic (by omega)]at x;exact ar (hR c o es ep t (hm.mono up) { x with f?:=hm.heap S _ hSw x.f? })
 |succ k u=>
  intro i s o es ep t H hi hst x hR;have hlt:i<n:=by omega
  refine d7 ia ?_;rw[eQ dY _];refine ai (W.item i s _ _ hlt hst λv c hP hst' hm=>?_);obtain⟨q,tk,eq,rfl⟩:=hval i v hP;refine ai (cJ ?_);unfold setAdd;refine cJ ?_;refine ai (qo ?_);have split:t9 (ks.take (i+1))=if q∈t9 (ks.take i)then t9 (ks.take i)else t9 (ks.take i)++[q]:=by unfold t9;rw[gu,eq,qc];rfl
  have B:={ x with f?:=hm.heap S _ hSw x.f? };have P:=by have h1:=MO (Ud (ks.take i)) λz J=>Lg.1 J;rw[cv]at h1;omega
  refine add_x B (by unfold scanBound;omega) (λinn=>?_) λnin h' M F C N r y=>?_
  .have e:t9 (ks.take (i+1))=t9 (ks.take i):=by rw[split,aj inn]
   refine ar #v[gL dY _,u (i+1) _ o es ep t (by omega) hlt (W.frame _ c c.heap _ hst' (ik _ _) λb z o e=>e) (by rw[e];exact B) λh j f d l a p=>?_];exact hR h j f d l (kj W.gtrans ((hm.mono up).then_heap (ik _ _) λb o z e=>e) a) p
  have e:t9 (ks.take (i+1))=t9 (ks.take i)++[q]:=by rw[split,ak nin]
  refine ar #v[gL dY _,u (i+1) _ _ _ _ _ (by omega) hlt (W.frame _ c h' _ hst' (ik _ _) λb z o e=>?_) (by rw[e];exact y) λh j f d l a p=>?_]
  .rw[r.2 b (λy:b=S=>hSf (by rw[<-y];exact z))];exact e
  .refine hR h j f d l (kj W.gtrans ((hm.mono up).then_heap (ik _ _) λb o z e=>?_) a) p;rw[r.2 b (λy:b=S=>z (by rw[y];exact ba))];exact e
def set_X{ks:aB}(I:b0 X pins σ H s)(N:A.handled=O)(P:e8 X.K H a (ks.map V.str))(l:ks.length<64)
  (h:∀h2 d o es ep t,g? X.w h2 s.heap.objs.size (t9 ks) (!X.w.params.followText "set-order") o es ep t->(∀b o,b<s.heap.objs.size->s.heap.get? b=Z o->h2.get? b=Z o)->Q (.ref s.heap.objs.size) { s with heap:=h2,toks:=d }):
  ao (model X.prog X.w) A (call (.type "set") [.ref a]) Q E s:=by
 have h3:A.in1.in1.in1.handled=O:=by simp[N]
 obtain⟨c,r,pp,_⟩:=I.list P;obtain⟨o,p,m,n,hd⟩:=pp.isList;have hlt:=bb p;have hne:=bj (fi hlt);have q:=by have:=r.length;rw[ae]at this;exact this
 refine Fu (PS:=λh2=>∃o es ep t,g? X.w h2 s.heap.objs.size (t9 ks) (!X.w.params.followText "set-order") o es ep t) p m mT lI (by decide)
  (λA Q E s1 e k=>ig #v[o,e,m,n,hd] k) (λtk' R hR=>?_) λh2 d #v[o,es,ep,t,x'] T=>h h2 d o es ep t x' T
 have y:∀{b:Addr} {B:Obj},s.heap.get? b=Z B->((s.heap.push (AM (!X.w.params.followText "set-order"))).push { cls:=.type "list_iterator", data:=.fields #[.ref a,.int 0 0] }).get? b=Z B:=λe=>aT _ (aT _ e);have it:((s.heap.push (AM (!X.w.params.followText "set-order"))).push { cls:=.type "list_iterator", data:=.fields #[.ref a,.int 0 0] }).get? (s.heap.objs.size+1)=Z { cls:=.type "list_iterator", data:=.fields #[.ref a,.int 0 0] }:=by rw[show s.heap.objs.size+1=(s.heap.push (AM (!X.w.params.followText "set-order"))).objs.size from(c9 _ _).symm];exact bA _ U
 have W:=(js (prog:=X.prog) (w:=X.w) h3 (s.heap.objs.size+1) a hne c.toArray).toS;have notin:s.heap.objs.size∉[s.heap.objs.size+1,a]:=by
  intro z;rcases aM.1 z with z|z
  .exact aq z (bj (dJ _))
  .exact aq (bu.1 z) (gO hlt)
 refine S? W notin ks (by rw[bp,q]) (by rw[bp,<- q];exact l) ?_ (c.toArray.size - 0) 0 _ (AM (!X.w.params.followText "set-order")) #[] 0 (.fresh 0 0 (!X.w.params.followText "set-order")) U (bR _) #v[#v[_,it,U,U],#v[o,y p,m,n,hd]] #v[aT _ (bA _ U),#v[U,U,U],U,U,U,λz=>aq z (fS 0),λe M=>(by cases M),.nil] λs2 Y j f t2 mv C=>?_
 .intro i v e;rw[jM]at e;have hi:i<ks.length:=by rw[q];exact(bY.1 e).1
  obtain⟨u,x,tk,ru⟩:=r.get (by rw[bg,aO hi];rfl);rw[e]at x;cases x;exact#v[ks[i],tk,aO hi,ru]
 .obtain⟨h2,g2,d2,d,o2'⟩:=s2;have G:=mv.gens;have F:=mv.drawn;have J:=mv.os;subst G F J;refine hR h2 d #v[Y,j,f,t2,C] λb o hb e=>mv.heap b o (λz=>?_) (y e);rcases aM.1 z with z|z
  .exact aq z (bj hb)
  .exact aq (bu.1 z) (bj (fi hb))
end
section
variable{prog:aL}{w:aE}{A:aR}{E:ab->af->Prop}{s:af}
theorem C':∀(l:List ab),(∀v∈l,∃x a,v=.str x a)->i8 l (l.map sOf)
 |[],_=>.nil
 |v::l,h=>by obtain⟨x,a,rfl⟩:=h v ba;exact .cons x a (C' l λu b=>h u (a9 _ b))
def N'(sa:i8 vs ss)(a:vs.length<64)(d:s.heap.get? l=Z (seqObj "list" vs.toArray n))
  (h:∀h' e out,Ea l s.heap h'->c6 ((wQ ss).map V.str) out->h'.get? l=Z (seqObj "list" out.toArray e)->P (.done (.ret .none)) { s with heap:=h' }):
  ao (model prog w) A (fG.«list.sort» #v[[.ref l],[]]) P E s:=by
 refine list_sort_treeK strKind_oneLt d sa.keysOf (λf i et e=>keyKind_strs (by rw[<-e];exact sa)) a λc a1 j=>?_;obtain⟨t,m,p,q⟩:=sorted_out_str sa a1 j;obtain⟨e,r⟩:=sortedHeap_at d;refine h _ e ((arrOf c).map (·.2)).toList (λb o hb z=>by rw[sortedHeap_old hb (bb z)];exact z) ?_ (by rw[Array.toArray_toList];exact r)
 rw[<-IS p q];exact TZ m
def ω(m:A.handled=O)(X:g? w s.heap S ss (!w.params.followText "set-order") o es ep t)(h:ss.length<64)
  (hQ:∀(p:Addr) (h2:Heap) (d:Nat) (d2:Drawn) (e:Nat) (out:List ab),s.heap.objs.size<=p->(∀b o,s.heap.get? b=Z o->h2.get? b=Z o)->c6 ((wQ ss).map V.str) out->h2.get? p=Z (seqObj "list" out.toArray e)->Q (.ref p) { s with heap:=h2,toks:=d,drawn:=d2 }):
  ao (model prog w) A (call (.builtin "sorted") [.ref S]) Q E s:=by
 refine oJ kind_sorted plain_sorted entry_sorted (args_sorted1 _) ?_;refine ai (ar ?_);refine ai (Q? (by simp[m]) X h λg d d2 acc r i f=>?_);have l:acc.length<64:=by rw[f.length_eq,ae,bZ,X.sz];exact h
 have sa:=C' acc λv q=>by obtain⟨e,c,rfl⟩:=au.1 (f.mem_iff.1 q);obtain⟨x,tk,rfl⟩:=X.el e c;exact#v[x,tk,U]
 have es:wQ (acc.map sOf)=wQ ss:=by
  have y:=by have:=f.map sOf;rw[aY]at this;exact this.t X.p
  exact lj (λa b _ _=>IR a b) (iV GA FH _) (iV GA FH ss) ((dy _ sm).t (y.t (dy ss sm).symm))
 refine ai (m7 ?_ (by rw[bX];omega));have on:(g.push (seqObj "list" acc.toArray 0)).get? g.objs.size=Z (seqObj "list" acc.toArray 0):=bA _ U;refine ai (cJ (fM rb #v[_,on,U] qM ?_ (rg _)));refine N' sa l on λh' e out u j c=>?_;rw[es]at j;exact#v[_,U,ar #v[_,U,hQ g.objs.size h' d d2 e out r (λb o z=>u b o (bj (bb (i b o z))) (aT _ (i b o z))) j c]]
end
section
variable{X:Cx}{G:Bg}
def θ(K:aw)(d:TE):TE:=λe H Q=>d e H λx b=>∃(a:Addr) (c:aB),x=.ref a/\e8 K b a (c.map V.str)/\c.length<64/\∀(p:Addr),b p=O->Q (.ref p) (ef b p (.a3 ((wQ (t9 c)).map V.str)))
def X'{p2 p3:Pos}(i:X.mi=γ)(g1:Gl X "sorted")(P:X.mg "sorted" = O)(g2:Gl X "set")(R:X.mg "set" = O)(A:PE X e W)
  (l:autoParam (aF [Expr.Call (.Name "set" p2) [e] [] p3] X.a4=[(δ,eval (.Call (.Name "set" p2) [e] [] p3) X.a4)]) zA0._auto_1) (m:autoParam (aF [e] X.a4=[(δ,eval e X.a4)]) zA0._auto_1):PE X (.Call (.Name "sorted" p1) [.Call (.Name "set" p2) [e] [] p3] [] p4) (θ X.K W):=by
 intro pins s σ H Q I h;refine d4 (Cn I g1 P nG ?_ (by decide) (by decide));refine callWith_builtin1 ?_ l U;rw[l];refine eX ?_;refine d4 (Cn I g2 R sj ?_ (by decide) (by decide));refine callWith_type1 (e3 (yx A AJ m p3 pins s σ H (λvs H1=>match vs with
  |[x]=>∃(a:Addr) (ks:aB),x=.ref a/\e8 X.K H1 a (ks.map V.str)/\ks.length<64/\∀(p:Addr),H1 p=O->Q (.ref p) (ef H1 p (.a3 ((wQ (t9 ks)).map V.str)))
  |_=>False) I h) λus T B=>?_) m U
 obtain⟨vs,H1,d,r1,q1⟩:=B
 match vs,r1,q1 with
 |[x],r1,q1=>
 obtain⟨a,ks,y,C,c,q⟩:=q1;subst y;obtain⟨u,rfl,S⟩:=j? r1;cases S;have Y:=gn (MO (Ud ks) λz E=>Lg.1 E) c;refine set_X d (d.ok.hd i) C c λh2 F o es ep t x N=>?_;refine gq ?_;have f:b0 X pins σ H1 { T with heap:=h2,toks:=F }:=d.fh λb o e=>N b o (bb e) e;refine ω (d.ok.hd i) x Y λp h3 J w e out j M vo hg=>?_;have r:=f.laid (t':=J) (o:=.a3 ((wQ (t9 ks)).map V.str)) M j #v[by
  rw[ae,bX,show (wQ (t9 ks)).length=_ from(dy _ sm).length_eq];omega,out,e,vo,hg]
 exact#v[.ref p,_,b0.drw r w,U,q p (f.ew.fresh j)]
def q?(f:FE):FA:=λd=>match f d with
 |some (.a3 c,a)=>match B5 c with
  |some b=>if b.length<64 then Z ((wQ (t9 b)).map D.str,a)else O
  |none=>O
 |_=>O
set_option h true
def T3(h:PE X e (θ G.K (tF G f))):PE X e (tH G (q? f)):=PE.b? h λI H Q u=>by
 obtain⟨F,y,j,C,z,R,e,k⟩:=u;unfold q? at e;split at e
 .rename_i m A o;cases d:B5 m with
  |none=>simp only[d]at e;cases e
  |some x=>
   simp only[d]at e;split at e
   .rename_i i;cases e;refine#v[F,y,j,_,_,R,o,λv B l s b r=>?_];obtain⟨a,E,rfl,q,t⟩:=r;have w:=CA t d;subst w;exact#v[a,x,U,e8.of (b.sub _ _ q),i,λp c=>k p _ _ _ s (b.ff c _) vI (b.er c) (b.fg c) (b.apart c) (CD _)]
   .cases e
 .cases e
end
set_option h false
section
variable{X:Cx}{B:Bz}{k:Nat}{e:Expr}{f:FE}{p p2 p3 pos:Pos}
def zr_wxI [C:Cz X B k][N:Nb B "sorted"][b:Nb B "set"](i:S1 X e)(h:Gz X "sorted")(a:Gz X "set")(d:ZE X B e f)(z:aF [Expr.Call (.Name "set" p2) [e] [] p3] X.a4=[(δ,eval (.Call (.Name "set" p2) [e] [] p3) X.a4)]):ZN X B (.Call (.Name "sorted" p) [.Call (.Name "set" p2) [e] [] p3] [] pos) (q? f):=#v[T3 (by rw[<-C.K];exact X' C.c h (C.mg▸N.p) a (C.mg▸b.p) d.p z i)]
end
end L4
namespace L4
open PySem PySem.Spec PyProof.Rows L2 L3
section
variable{B:Bz}[Y:Yb B]{x m qual:Str}{st s0:Stmt}{l:List Stmt}{k c c0 np n:Nat}{b:FS}{p:Str}{ps xs:aB}{N:aB}
omit Y in
end
end L4
namespace L4
open PySem PySem.Spec PySem.Calls PyProof.Rows PySem.W L2 L3
section
variable{X:Cx}{G:Bg}
def rEqN(K:aw)(r:R2):R2:=λx y H Q=>(∃a b c,x=.ref a/\y=.ref b/\H a=Z (.a3 c)/\H b=Z (.a3 [])/\c≠[]/\Q (.X δ) H)\/r x y H Q
def op_eqN{r:R2}(C:X.A.units+64<cLine)(i:gi X (bD .Eq) r):gi X (bD .Eq) (rEqN X.K r):=by
 intro c s B H x y v u Q I e f h;rcases h with ⟨a,b,E,rfl,rfl,j,l,m,q⟩|h
 .cases e;cases f;obtain⟨o,w,p,_⟩:=I.list (.inl (.inl j));obtain⟨d,z,t,_⟩:=I.list (.inl (.inl l));cases z;refine oP p.isList t.isList ?_ (by omega) (wD I q U);cases w with
  |nil=>exact aq U m
  |cons _ _=>simp
 .exact i c s B H x y v u Q I e f h
def p':D->D->Option D
 |.a3 (_::_),.a3 []=>Z (.X δ)
 |x,y=>cb δ x y
def od_eqN{r:R2}(j:i1 G r (cb δ)):i1 G (rEqN G.K r) p':=λx y z i H v u Q e s c d k=>by
 unfold p' at e;split at e
 .cases e;have c:=cm.mono s _ _ c;have d:=cm.mono s _ _ d;unfold cm at c d;obtain⟨a,o,rfl,l,f⟩:=c;obtain⟨b,p,rfl,m,h⟩:=d;unfold a6 at f h;subst h;obtain⟨_,_,rfl,_⟩:=f;exact .inl #v[a,b,_,U,U,l,m,(by intro z;cases z),k _ λt t=>yw _]
 .exact .inr (j x y z i H v u Q e s c d k)
instance inN9:y? .Eq p':=#v[λX G h u=>by
 obtain⟨r,a,b⟩:=in9.p X G h u;exact#v[rEqN G.K r,by rw[<-h];exact op_eqN u a,od_eqN b]]
end
end L4
namespace L4
open PySem PySem.Spec PyProof.Rows L2 L3
def dV(g:br->Option (Option D)):br->Option D:=λa=>match g a with
 |some (Z d)=>Z d
 |_=>O
mutual
def noFz:D->Bool
 |.nq _=>δ
 |.Z' _ _=>δ
 |.a7 a=>Dv a
 |.a3 a=>Dv a
 |.obj _ _ a=>Dv a
 |.i0 _ a=>Dv a
 |_=>γ
def Dv:br->Bool
 |[]=>γ
 |d::a=>noFz d&&Dv a
end
section
variable{G:Bg}
def ξ:=dI (λt b=>decide (0<=b)) λa b=>.int (a / 2 ^ b.toNat)
def μ:=dI (λt t=>γ) λa b=>.int (ka a b)
def od_shr:i1 G (rI (λt j=>0<=j) λi j=>.int (i / 2 ^ j.toNat)) ξ:=Mx (λa b h=>by simpa using h) λt t=>#v[U,U]
def od_and:i1 G (Bx λi j=>.int (ka i j)) μ:=EJ λt t=>#v[U,U]
end
instance in104:ζ .RShift ξ:=#v[λt t=>#v[_,ZV,od_shr]]
instance in105:ζ .BitAnd μ:=#v[λt t=>#v[_,ZZ,od_and]]
end L4
namespace L4
open PySem PySem.Spec PySem.Calls PyProof.Rows PySem.W L2 L3
def kN(K:aw):Bool:=K.all λp=>p.2.dict.isNone
section
variable{X:Cx}{pins:cO}{σ:St}{H:Hp}{s:af}
set_option h true
def I1(I:b0 X pins σ H s)(i:kN X.K=γ){a:Addr}{d:bF}(h:e? X.K H a d):∀o,s.heap.get? a=Z o->o.dict=O:=by
 rcases h with (h|⟨j,h⟩)|⟨o,p,n,c,_⟩
 .obtain⟨_,_,_,_,f⟩:=(show en X.prog X.w H s.heap a (.a7 d) from I.ew a _ h);exact f
 .obtain⟨_,_,_,_,_,f⟩:=(show en X.prog X.w H s.heap a (.mr j (.a7 d)) from I.ew a _ h);exact f
 .intro r e;rw[I.ma a o c]at e;cases e;have l:(a,o)∈X.K:=by
   clear i;generalize X.K=K at c
   induction K with
   |nil=>cases c
   |cons q K m=>
    obtain⟨b,j⟩:=q;rw[fo]at c;split at c
    .rename_i e;cases c;rw[fY e];exact ba
    .exact a9 _ (m c)
  have:=aH.1 i _ l;exact Option.isNone_iff_eq_none.1 this
end
set_option h false
class Hz(B:Bz):Prop where
 h:B.G.hs=tupleKeyHash (v5 B.P B.w)
 k:kN B.G.K=γ
section
variable{X:Cx}{G:Bg}
def lb{a:Type}(l:List a)(n:Nat)(y:a):List a:=l.take n++y::l.drop n
inductive IrIns(x:V) (vs:bF) (H:Hp) (Q:VK):Prop
 |i (l xs y n) (h0:x=.ref l) (h1:vs=[.int n,y]) (h2:H l=Z (.a3 xs)) (h3:0<=n) (h4:n.toNat<=xs.length) (h5:xs.length<aJ) (h6:Q .U (ef H l (.a3 (lb xs n.toNat y)))):IrIns x vs H Q
def rIns:V->bF->Hp->VK->Prop:=λx a H Q=>IrIns x a H Q
def ZX{b:bF}{a:List ab}(h:c6 b a){y:V}{u:ab}(r:dd y u)(n:Nat):c6 (lb b n y) (lb a n u):=(h.take n).append (.cons r (h.drop n))
def c6.two{x y:V}{e:List ab}(h:c6 [x,y] e):∃u v,e=[u,v]/\dd x u/\dd y v:=by
 cases h with
 |cons a b=>cases b with
  |cons c d=>cases d;exact#v[_,_,U,a,c]
theorem R?:MtM X "list.insert" rIns:=by
 intro i s N H x M v J Q I p o h;obtain⟨l,w,y,n,rfl,rfl,hH,A,C,E,q⟩:=h;cases p;obtain⟨u,c,rfl,j,b⟩:=c6.two o;obtain⟨t,rfl⟩:=j;obtain⟨z,a,m,r,B,e⟩:=I.I? hH;have d:a.length=w.length:=by have:=r.length;omega
 refine fX pV #v[_,e,U] F.entry_list_insert (F.args_list_insert_3 _ _ _) (AutoSeq1.list_insert_list_int_val_1 l a.toArray m n t c (by simp[fitsIndex_both (show -(2 ^ 63)<=n by omega) (show n<2 ^ 63 by have:=bX;omega)]) (by rw[bp];omega)) #v[e,?_];refine#v[.U,_,I.lset (its':=lb a n.toNat c) hH e ?_ (ZX r b _) ?_,U,q]
 .show (a.toArray.extract 0 (if n<0 then (n+(a.toArray.size:Int)).toNat else min n.toNat a.toArray.size)).push c++a.toArray.extract (if n<0 then (n+(a.toArray.size:Int)).toNat else min n.toNat a.toArray.size)=_;rw[ak (by omega),bp,gA (by omega)];apply Array.toList_inj.1;simp[lb];exact ic (by simp)
 .unfold lb;rw[aA,aU,cv,c8];omega
def O?(i:Nat)(f e:FE):FE:=λd=>match yB d i with
 |some _=>match f d with
  |some (.int n,c)=>match e c with
   |some (y,a)=>match yB a i with
    |some b=>if 0<=n/\n.toNat<=b.length/\b.length<1000 then Z (.U,putAt a i (lb b n.toNat y))else O
    |none=>O
   |none=>O
  |_=>O
 |none=>O
def χ{H:Hp}{a:br}{b:bF}{d:D}{v:V}(n:Nat)(h:a6 G H a b)(r:cm G H d v):a6 G H (lb a n d) (lb b n v):=xN (Gp n h) (wJ r (Gm n h))
set_option h true
def N?(h:PE X e (tBM G.K "list" rIns (EE i) (qi G (ax f (ax J vP))))):PE X e (tF G (O? i f J)):=PE.b? h λσ H Q M=>by
 obtain⟨F,w,x,d,Y,R,e,k⟩:=M;unfold O? at e;cases c:yB w i with
 |none=>simp only[c]at e;cases e
 |some B=>
  simp only[c]at e;split at e
  .rename_i n ρ1 C;split at e
   .rename_i y p E;split at e
    .rename_i ds I;split at e
     .rename_i j;cases e;obtain⟨a,W,t,N,s3,_⟩:=zU R c;refine#v[.ref a,t,.inl #v[U,W,e8.of N],F,w,x,[.int n,y],p,R,by unfold ax;rw[C];simp only[E];rfl,λys H1 z s A rs=>?_];unfold a6 at rs;obtain⟨v,r0,rfl,r,q⟩:=rs;unfold a6 at q;obtain⟨T,r1,rfl,l,b⟩:=q;unfold a6 at b;subst b;unfold cm at r;subst r;obtain⟨a',o,u,P,m,S⟩:=zU A I;rw[t]at u;cases u;exact#v[a,o,T,n,U,U,P,j.1,by rw[<-vH m];exact j.2.1,by rw[<-vH m];exact BZ (iz j.2.2),k _ _ _ s (S _ _ (χ _ m l)) Ak]
     .cases e
    .cases e
   .cases e
  .cases e
end
set_option h false
section
variable{X:Cx}{B:Bz}{k i:Nat}{x:Str}{e e':Expr}{f f':FE}{p p2 pos apos:Pos}
theorem zr_insI [C:Cz X B k](h:u2 X i x=γ)(j:ZE X B e f)(l:ZE X B e' f')(c:Az X (.Name x p) "insert")(d:Ez apos pos)(b:aF [e,e'] X.a4=[(δ,eval e X.a4),(δ,eval e' X.a4)])(a:S1 X e'):ZE X B (.Call (.Attribute (.Name x p) "insert" apos) [e,e'] [] pos) (O? i f f'):=
 #v[N? (NW B.G.K je pV F.type_list_insert R? (Kx h) (xE j.p (xE l.p yK a) (by rw[b,a])) c (by rw[b];rfl) d (by rw[b,a]) (by rw[a];rfl) C.K)]
end
end L4
namespace L4
open PySem PySem.Spec PySem.Calls PySem.SeqAt PyProof.Rows PySem.W L2 L3
section
variable{X:Cx}{G:Bg}
def rSpl:V->bF->Hp->VK->Prop:=λx a H Q=>∃z y:Str,x=.str z/\a=[.str y]/\(y.length==0)=δ/\z.length+2<=aJ/\∀l,H l=O->Q (.ref l) (ef H l (.a3 ((cY z y).map V.str)))
def Y'(f c:FE):FA:=λd=>match f d with
 |some (.str z,a)=>match c a with
  |some (.str y,b)=>if (y.length==0)=δ/\z.length<=100000 then Z ((cY z y).map D.str,b)else O
  |_=>O
 |_=>O
set_option h true
def pfn_spl(h:PE X e (tBM G.K "str" rSpl (tF G f) (qi G (ax u vP)))):PE X e (tH G (Y' f u)):=PE.b? h λS H Q x=>by
 obtain⟨F,C,j,M,E,R,e,k⟩:=x;unfold Y' at e;split at e
 .rename_i z a r;split at e
  .rename_i y I t;split at e
   .rename_i w;cases e;refine#v[F,C,j,.str z,a,R,r,λv l m A q c=>?_];unfold cm at c;subst c;refine#v[U,F,a,l,[.str y],_,q,by unfold ax;rw[t];rfl,λP J o B R2 rs=>?_];unfold a6 at rs;obtain⟨v,N,rfl,i,d⟩:=rs;unfold a6 at d;subst d;unfold cm at i;subst i;exact#v[z,y,U,U,w.1,by rw[bX];omega,λp b=>k p _ _ _ (A.t B) (R2.ff b _) vI (R2.er b) (R2.fg b) (R2.apart b) (CD _)]
   .cases e
  .cases e
 .cases e
set_option h false
def u?(l:Addr)(items:Array ab)(n:Nat)(p:Option Addr)(sl:Array (Option ab))(x:ab)(e:ab->Bool)(j:Nat)(r:j<items.size)(hit:e items[j]=γ)(hno:∀m (hm:m<items.size),m<j->e items[m]=δ):
  Meets (fG.«tuple.index» #v[[.ref l,x],[]])
   (λA R s=>s.heap.get? l=Z { cls:=.type "tuple", dict:=p,data:=.seq items n,slots:=sl }/\(∀y,y∈items->EqAt A.in1 s y x (e y))/\R (.ok (.ret (.int j s.toks))) { s with toks:=s.toks+1 }):=
 .of_wp λprog w A R s h=>by
  obtain⟨z,g,d,tk,os⟩:=s;obtain⟨t,q,h⟩:=h
  wp_walk using wpAny_loadPart' t
  show ao _ _ (forIn [:_] _ _) _ _ _;have hr:∀{β:Type} (n:Nat) (b:β) (f:Nat->β->Sem (ForInStep β)),forIn [:n] b f=forIn (sr 0 n 1) b f:=λn b f=>by rw[tQ];simp[uJ]
  rw[hr,gQ];refine j4 _ (λet b o=>b.1=O/\o=#v[z,g,d,tk,os]/\∃i,et=sr i (items.size - i)/\i<=j) _ ?_ ?_ _ _ #v[U,U,0,U,bR _]
  .rintro m et ⟨b,u⟩ o ⟨hb,rfl,i,a,hi⟩;have hlt:i<items.size:=gn hi r;obtain⟨k,c⟩:∃k,items.size - i=k+1:=#v[items.size - i - 1,by omega];rw[c,qD]at a;injection a with h1 h2;subst h1 h2;have hg:items[m]?=Z items[m]:=by simp[hlt]
   simp only[hg];refine ai (q _ (Array.getElem_mem hlt) prog w _ _ ?_);rcases Nat.lt_or_ge m j with hm|hm
   .rw[hno m hlt hm]
    wp_walk
    exact#v[U,U,m+1,by rw[show items.size - (m+1)=k by omega],hm]
   .have:m=j:=by omega
    subst this;rw[hit]
    wp_walk
    exact#v[_,U,h]
  .rintro⟨b,u⟩ o ⟨hb,rfl,i,a,hi⟩;obtain⟨k,c⟩:∃k,items.size - i=k+1:=#v[items.size - i - 1,by omega];rw[c,qD]at a;cases a
inductive Dw(K:aw) (x:V) (vs:bF) (H:Hp) (Q:VK):Prop
 |i (l:Addr) (ss:aB) (k:Str) (h0:x=.ref l) (h1:vs=[.str k]) (h2:e? K H l (ss.map V.str)) (h3:ss.length<=1000) (h4:k∈ss) (h5:Q (.int (ss.idxOf k:Nat)) H):Dw K x vs H Q
def L?(K:aw):V->bF->Hp->VK->Prop:=λx a H Q=>Dw K x a H Q
theorem M?:MtR X "tuple.index" (L? X.K):=by
 intro m s P H x N v M Q I C B h;obtain⟨l,b,k,rfl,rfl,w,J,r,q⟩:=h;cases C;obtain⟨u,rfl,A⟩:=B.one;obtain⟨t,rfl⟩:=A;obtain⟨a,o,pl,_⟩:=I.tuple w;have d:=IT o;have c:b.length=a.length:=by have:=o.length;rw[ae]at this;exact this
 obtain⟨⟨cls,p,data,E⟩,i,f,n,hd⟩:=id pl;simp only at f hd;subst f hd;have e:b.idxOf k<b.length:=jI.2 r;refine fX pW #v[_,i,U] F.entry_tuple_index (F.args_tuple_index_2 _ _)
  (u? l a.toArray n p E (.str k t) (isStrOf k) (b.idxOf k) (by simpa [c]using e) ?_ ?_) #v[i,λy z=>(eq_isStrOf k t d y (by simpa using z)).at _ _,?_]
 .show isStrOf k a[b.idxOf k]=γ;rw[EM k d _ (by omega) e];simpa using pX e
 .intro j hjs hlt;show isStrOf k a[j]=δ;rw[EM k d j (by simpa using hjs) (by omega)];exact IU hlt _
 .exact#v[.int (b.idxOf k:Nat),_,I.ri _,#v[_,U],q]
def tBU(K:aw)(r:V->bF->Hp->VK->Prop)(to:TE)(t:TA):TE:=λc H Q=>to c H λx b=>(∃p a,x=.ref p/\e? K b p a)/\t c b λa d=>r x a d Q
def pe_bu{id:String}(C:kN X.K=γ)(E:ku "tuple")(slot:Slot "tuple" name id)(hty:typeOf (.builtin id)=pure (.type "method_descriptor"))(w:MtR X id r)(y:PE X o to)(q:PA X (e::c) t)
  (hbase:fA o name X.a4 (eval o X.a4)=eval o X.a4)
  (hfew:((bO cpos (aF (e::c) X.a4)).all (λx=>!x.1)&&(backToKw cpos (dP [] X.a4)).all (λx=>x.1.isSome)
   && decide ((e::c).length+([]:List eJ).length+(if ([]:List eJ).isEmpty then 0 else 1)<30))=γ)
  (hline:(apos.endLine==cpos.line)=γ) (z:aF (e::c) X.a4=(δ,eval e X.a4)::aF c X.a4) (hplain:(bO cpos (aF c X.a4)).any (·.1)=δ):
  PE X (.Call (.Attribute o name apos) (e::c) [] cpos) (tBU X.K r to t):=by
 intro b s i H Q I h;refine oW hbase hfew hline U (e3 (y b s i H _ I h) λv P zz=>?_);obtain⟨x,j,d,M,⟨p,Y,A,hT⟩,F⟩:=zz;subst A;cases M;obtain⟨B,W,pl,_⟩:=d.tuple hT;obtain⟨f,hob,u,_⟩:=pl;refine#v["tuple", id,E,slot,hty,#v[f,hob,u],λa e=>by cases e;exact#v[f,hob,I1 d C hT f hob],?_];have hA:=q cpos b P i j _ d F;rw[z]at hA ⊢;refine ib (by show (δ||(bO cpos (aF c X.a4)).any (·.1))=δ;rw[hplain]<;>rfl) (ie ?_)
 exact e3 hA λS R #v[T,l,m,N,J]=>w b R i l (.ref p) T _ S Q m U N J
def pw:D->D->Option D:=λx y=>match x,y with
 |.a7 b,.str k=>match B5 b with
  |some a=>if k∈a/\a.length<=1000 then Z (.int (a.idxOf k:Nat))else O
  |none=>O
 |_,_=>O
set_option h true
def T1(h:PE X e (tBU G.K (L? G.K) (tF G f) (qi G (ax J vP)))):PE X e (tF G (c2 pw f J)):=PE.b? h λσ H Q N=>by
 obtain⟨F,W,w,d,j,R,e,k⟩:=N;obtain⟨x,y,c,E,I,b⟩:=Fk e;unfold pw at b;split at b
 .rename_i C p;cases eq:B5 C with
  |none=>simp only[eq]at b;cases b
  |some T=>
   simp only[eq]at b;split at b
   .rename_i o;cases b;refine#v[F,W,w,_,c,R,E,λv z A S l q=>?_];unfold cm at q;obtain⟨a,xs,rfl,m,M⟩:=q;have P:=CA M eq;subst P;refine#v[#v[a,_,U,e?.mono l.sub m],F,c,z,[.str p],j,l,by unfold ax;rw[I];rfl,λys B i u R2 rs=>?_];unfold a6 at rs;obtain⟨v,Y,rfl,t,r⟩:=rs;unfold a6 at r;unfold cm at t;subst r t;exact#v[a,T,p,U,U,e?.mono (u.t R2.sub) m,o.2,o.1,k _ B i (S.t u) R2 (yf _)]
   .cases b
 .cases b
inductive IrInU(K:aw) (x:V) (y:V) (H:Hp) (Q:VK):Prop
 |i (p xs d l) (h0:y=.ref p) (h1:e? K H p xs) (h2:L3.cm K H d x) (h3:L3.a6 K H l xs) (h4:fc d<=20) (h5:(∀e∈l,fc e<=20)) (h6:Q (.X (l.any λe=>oz e d)) H):IrInU K x y H Q
set_option h false
def rInU(K:aw):R2:=λx y H Q=>IrInU K x y H Q
def op_inU(T:X.A.units+64<cLine):gi X (bD .In) (rInU X.K):=by
 intro C s σ H x y v u Q I R S h;obtain⟨p,Y,d,l,rfl,F,N,P,hd,E,q⟩:=h;cases S;obtain⟨j,r,pl,W⟩:=I.tuple F;obtain⟨J,M⟩:=B' P r;have B:∀e∈l,∀z w,L3.cm X.K H e z->dd z w->jr X.A.in1 s w v (oz e d):=λe a z w b c=>Sy I e d z x w v X.A.in1 b N c R (by have:=E e a;show X.A.units+1+_+_<_;omega);let f:ab->Bool:=λw=>@decide (∃e∈l,∃z,L3.cm X.K H e z/\dd z w/\oz e d=γ) (iW _);refine qx f pl (λw o=>?_) #v[.X _,H,I,U,?_]
 .by_cases m:∃e∈l,∃z,L3.cm X.K H e z/\dd z w/\oz e d=γ
  .have t:f w=γ:=@aS _ (iW _) m;obtain⟨e,a,z,b,c,i⟩:=m;have:=B e a z w b c;rw[i]at this;rw[t];exact this
  .have t:f w=δ:=@aP _ (iW _) m;obtain⟨e,a,z,b,c⟩:=J w (by simpa using o);have:=B e a z w b c;rw[jd.2 λi=>m #v[e,a,z,b,c,i]]at this;rw[t];exact this
 .have eq:j.toArray.any f=l.any λe=>oz e d:=by
   rw[show j.toArray.any f=j.any f by simp];refine d6.2 ?_;rw[fN,fN];constructor
   .rintro⟨w,o,m⟩;obtain⟨e,a,z,b,c,i⟩:=@bh _ (iW _) m;exact#v[e,a,i]
   .rintro⟨e,a,i⟩;obtain⟨w,o,z,b,c⟩:=M e a;exact#v[w,o,@aS _ (iW _) #v[e,a,z,b,c,i]]
  rw[eq];exact q
def Rr:D->D->Option D:=λx y=>match y with
 |.a7 a=>match iE x,xX a with
  |some d,Z l=>if decide (fc d<=20)&&l.all (λe=>decide (fc e<=20))then Z (.X (l.any λe=>oz e d))else O
  |_,_=>O
 |_=>O
set_option h true
def od_inU:i1 G (rInU G.K) Rr:=λx y z r H v u Q e s q c k=>by
 unfold Rr at e;split at e
 .rename_i i;cases b:iE x with
  |none=>simp only[b]at e;cases e
  |some d=>
   cases f:xX i with
   |none=>simp only[b,f]at e;cases e
   |some l=>
    simp only[b,f]at e;split at e
    .rename_i h;cases e;rw[aW,bK,aH]at h;have c:=cm.mono s _ _ c;unfold cm at c;obtain⟨a,j,rfl,m,o⟩:=c;exact#v[a,j,d,l,U,m,HM x v d (cm.mono s _ _ q) b,Fp i j l o f,h.1,λe p=>bh (h.2 e p),k _ λt t=>yw _]
    .cases e
 .cases e
set_option h false
instance inU2:y? .In Rr:=#v[λX G h a=>#v[_,by rw[<-h];exact op_inU a,od_inU]]
end
section
variable{X:Cx}{B:Bz}{k i:Nat}{x:Str}{e e':Expr}{f f':FE}{p p2 pos apos:Pos}
theorem zr_plI [C:Cz X B k](d:ZE X B e f)(h:ZE X B e' f')(b:Az X e "split")(c:Ez apos pos)(a:S1 X e'):ZN X B (.Call (.Attribute e "split" apos) [e'] [] pos) (Y' f f'):=#v[pfn_spl (bmI b c a F.plainAttrs_str j3 F.type_str_split SA d.p (xE h.p yK a))]
theorem zr_iuI [C:Cz X B k][N:Hz B](d:ZE X B e f)(h:ZE X B e' f')(b:Az X e "index")(c:Ez apos pos)(a:S1 X e'):ZE X B (.Call (.Attribute e "index" apos) [e'] [] pos) (c2 pw f f'):=#v[T1 (C.K▸pe_bu (by rw[C.K];exact N.k) F.plainAttrs_tuple pW F.type_tuple_index M? d.p (xE h.p yK a) b (by rw[a];rfl) c a U)]
end
end L4
namespace L4
inductive Al{α β:Type} (P:α->β->Prop):List α->List β->Prop
 |nil:Al P [] []
 |cons (h:P x y) (t:Al P l m):Al P (x::l) (y::m)
theorem Al.at{c d:Type}{P:c->d->Prop}:∀{l:List c} {m:List d} {x:c} {y:d} (n:Nat),Al P l m->l[n]?=Z x->m[n]?=Z y->P x y
 |_,_,_,_,0,.cons h _,a,b=>by cases a;cases b;exact h
 |_,_,_,_,n+1,.cons _ t,a,b=>t.at n a b
end L4
namespace K44x
open PySem L2 L3 L4
abbrev D:=L4.D
def top(i:Nat):Stmt:=PySem.Challenge.pw_tellworld_k44_whole_rows_read.main.body.getD i (.Pass ⟨0,0,0,0⟩)
set_option r "B6 14;B7 13;yp 2;GK 9;yG 2;Eu 14;AR 14;xK 14;DM 14;BG 14" in def ϑ0:Nat->Bool:=λc=>c==ϑ1
def AS:Nat->Bool:=λc=>c==1
def Bk:Nat->Bool:=λc=>c==14
def vY:Nat->Bool:=λc=>c==0||c==1||c==2
set_option r "Lh 10;GL 10;yH 2" in def ϑ0:Nat->Bool:=λc=>c==ϑ1
set_option r "zY 13;zt 14;B8 14;B9 14" in def ϑ0:Nat->Bool:=λc=>c==ϑ1
def Ca:Nat->Bool:=λc=>c==3||c==4||c==5||c==6||c==7||c==11||c==12
set_option r "Ed 13;FJ 13;AU 14" in def ϑ0:Nat->Bool:=λc=>c==ϑ1
set_option r "wz 0 7;Ec 3 11;xi 0 1;Ee 6 12" in def ϑ0:Nat->Bool:=λc=>c==ϑ1||c==ϑ2
set_option r "zu 13;Bl 14;IW 8;xY 0;BH 14" in def ϑ0:Nat->Bool:=λc=>c==ϑ1
set_option r "t_At 3;Oo 10;YI 4;Uh 7;YJ 15;Ui 1;MW 6;Uj 11;Uk 9;YK 12;Ul 13;Um 5;Py 0;Uo 2;Up 8" in abbrev ϑ0:Ty->Option Bool:=zq 16 ϑ1
def DN:L4.D:=(D.int 8)
def DO:L4.D:=(D.int 12)
def IY:L4.D:=(D.a7 [(D.str "it"),(D.str "other"),(D.str "here"),(D.str "the"),(D.str "a"),(D.str "undo"),(D.str "restart")])
def Dr:L4.D:=(D.str "Nothing comes of it.")
def Hk:L4.D:=(D.str "That cannot be.")
def FK:L4.D:=(D.a7 [(D.str "room"),(D.str "plain"),(D.str "fixed"),(D.str "box"),(D.str "lamp"),(D.str "you")])
def Bm:L4.D:=(D.a7 [(D.str "room"),(D.str "box"),(D.str "you")])
set_option r "IZ the a;Bn box lamp;Ew room you" in def ϑ0:L4.D:=(D.a7 [(D.str "ϑ1"),(D.str "ϑ2")])
set_option r "FL 5;FM 4;Hl 4;FN 60;Bo 3;FP 5;Ex 7;CG 4;DP 3;Hm 10;FQ 6;CH 4" in def ϑ0:L4.D:=(D.int ϑ1)
set_option r "Pz alone one two way;AV the a undo restart" in def ϑ0:L4.D:=(D.a7 [(D.str "ϑ1"),(D.str "ϑ2"),(D.str "ϑ3"),(D.str "ϑ4")])
def FR:L4.D:=(D.int 20)
abbrev aa:=(cV 0)
abbrev ag:=(cV 1)
abbrev az:=(cC (.int 1))
def zb:=dr 2 2 (vA (wU (c1 (wX (xy "str")) aa) (wU (yU zW zW az (c1 w5 aa) ag) (c1 zX (cL (vE 1 [] (iS aa) (gN 0) wH (yU SY SY (cS "a") aa (cS "z"))))))))
def zg:=dr 1 1 (vA (wU (vx zb (ax aa (a1 (cC DN)))) (c2 (j0 γ) aa (cC IY))))
abbrev kJ:=(cC IZ)
def yO:=dr 1 1 (vA (wU (vx zb (ax aa (a1 (cC DO)))) (c2 (j0 γ) aa kJ)))
def wK:=dr 2 2 (vA (wU (c1 (wX (xy "str")) aa) (c2 (j0 δ) aa ag)))
def AW:=dr 1 1 (vA (wU (c1 (wX (xy "int")) aa) (HC (c1 (wX (xy "bool")) aa))))
def wN:=dr 2 2 (vA (wU (c1 (wX (xy "list")) aa) (c2 zW (c1 w5 aa) ag)))
def EO:=dr 1 1 (vA (mw (cT (c1 (wX (xy "list")) aa)) (cL (zf aa)) aa))
abbrev ah:=(cV 2)
abbrev ay:=(cV 3)
abbrev aG:=(cV 4)
def CJ:FS:=(a0 (wI 0 0 "name" ag)
 (a0 (wI 0 0 "words" ah)
 (a0 (wI 0 0 "kind" ay)
 (wI 0 0 "start" aG))))
def An:=rl 0 4 5 CJ
def Hn:=rl 1 3 4 (a0 (wI 1 0 "name" ag)
 (a0 (wI 1 0 "start" ah)
 (wI 1 0 "most" ay)))
abbrev aN:=(cC D.U)
def DQ:FS:=(a0 (wI 2 0 "name" ag)
 (a0 (wI 2 0 "others" (mw (cT (c2 zF ah aN)) (vQ vP) ah))
 (a0 (wI 2 0 "form" ay)
 (wI 2 0 "joining" aG))))
def yb:=rl 2 4 5 DQ
def Ef:=rl 3 2 3 (a0 (wI 3 0 "term" ag)
 (wI 3 0 "place" ah))
set_option r "xA 6 value;yc 7 kind" in def ϑ0:=rl ϑ1 2 3 (a0 (wI ϑ1 0 "term" ag)
 (wI ϑ1 0 "ϑ2" ah))
set_option r "CK 4 term;Ho 5 term;DR 8 word;yh 9 inner" in def ϑ0:=rl ϑ1 1 2 (wI ϑ1 0 "ϑ2" ag)
set_option r "Hr 10 one other;zh 11 term place;zK 12 term value" in def ϑ0:=rl ϑ1 2 3 (a0 (wI ϑ1 0 "ϑ2" ag)
 (wI ϑ1 0 "ϑ3" ah))
abbrev bq:=(cV 5)
abbrev ck:=(a1 ah)
abbrev f9:=(a1 ay)
def DS:FS:=(a0 (wI 13 0 "verb" ag)
 (a0 (wI 13 0 "tests" (vx EO ck))
 (a0 (wI 13 0 "deeds" (vx EO f9))
 (a0 (wI 13 0 "text" aG)
 (wI 13 0 "refuses" bq)))))
def yd:=rl 13 5 6 DS
def Cb:=dr 1 1 (vA (c2 (j0 δ) (c1 (vF wz "kind") aa) (cC Bm)))
def wZ:Nat->Option (List D->Option D):=λc=>match c with
 |0=>Z Cb
 |_=>O
def Cc:=dr 1 1 (vA (c2 (j0 δ) (c1 (vF wz "kind") aa) (cC Bn)))
def xZ:Nat->Option (List D->Option D):=λc=>match c with
 |0=>Z Cc
 |_=>O
def AX:=dr 1 1 (vA (c2 (j0 γ) (c1 (vF wz "kind") aa) (cC Ew)))
def wR:Nat->Option (List D->Option D):=λc=>match c with
 |0=>Z AX
 |_=>O
def vK:=dr 2 2 (eg (xm (cT aa)) QY vG)
def CL:=dr 2 2 (vA (c1 w5 (cL (vE 1 [1] (iL aa) (gN 0) (cT (c2 (cb δ) (c1 (vF wz "kind") aa) ag)) aa))))
def zv:=qt 1 1 (wW (vE 1 [] (iL aa) (gN 0) (cT (vU wR "is_plainly" aa vP)) aa))
abbrev av:=(cC (.int 0))
abbrev cj:=(cC (.X δ))
def GN:FS:=(a0 (eg (xG (xm (cT (c1 (wX Ui) aa))) (xG (xm (cT (vx AW (a1 (c1 (vF xi "start") aa))))) (xm (cT (vx AW (a1 (c1 (vF AS "most") aa))))))) (vA cj) vG)
 (vA (wU (yU zW zW az (c1 (vF AS "most") aa) (cC DP)) (yU zW zW av (c1 (vF xi "start") aa) (c1 (vF AS "most") aa)))))
def GO:=dr 1 1 GN
abbrev cH:=(cS "room")
abbrev jA:=(cS "you")
abbrev bJ:=(a1 aa)
def AY:FS:=(a0 (vN 1 (wU (c1 (wX (xy "list")) aa) (c1 zX (cL (vE 1 [] (iL aa) (gN 0) wH (c1 (wX Py) aa))))))
 (a0 (wc (vx vK (ax ag (a1 (cS "things are a list of things")))))
 (a0 (wc (vx vK (ax (c1 zX (cL (vE 1 [] (iL aa) (gN 0) wH (vx wK (ax (c1 (vF wz "kind") aa) (a1 (cC FK))))))) (a1 (cS "a thing is of no kind")))))
 (a0 (wc (vx vK (ax (yU zW zW az (vx CL (ax aa (a1 cH))) (cC FP)) (a1 (cS "a world has 1 to 5 rooms")))))
 (a0 (wc (vx vK (ax (c2 (cb δ) (vx CL (ax aa (a1 jA))) az) (a1 (cS "a world has just one you")))))
 (wc (vx vK (ax (c2 zW (c1 w5 (cL (wx zv bJ))) (cC Ex)) (a1 (cS "a world has at most 7 things beside rooms and you"))))))))))
def AZ:=dr 1 2 AY
def BI:FS:=(a0 (vN 1 (wU (vx wN (ax aa (a1 (cC CG)))) (c1 zX (cL (vE 1 [] (iL aa) (gN 0) wH (vx GO bJ))))))
 (wc (vx vK (ax ag (a1 (cS "marks are a list of at most 4 marks, each from 0 to at most 3"))))))
def BJ:=dr 1 2 BI
def xQ:=dr 1 1 (vA (c2 (cb δ) (c1 (Fv GH) aa) (c1 w5 aa)))
def BK:=dr 2 3 (a0 (vN 2 (cL (xt (cL (vE 1 [] (iL aa) (gN 0) wH (c1 (vF vY "name") aa))) (cL (vE 1 [] (iL ag) (gN 0) wH (c1 (vF vY "name") aa))))))
 (a0 (wc (vx vK (ax (c1 zX (cL (vE 1 [] (iL ah) (gN 0) wH (vx zg bJ)))) (a1 (cS "a name is no name")))))
 (wc (vx vK (ax (vx xQ ck) (a1 (cS "two things or marks have one name")))))))
def zw:=qt 2 2 (wW (xt (cL (vE 1 [] (iL aa) (gN 0) (cT (vU xZ "has_mark" aa vP)) (c1 (vF vY "name") aa))) (cL (vE 1 [] (iL ag) (gN 0) wH (c1 (vF vY "name") aa)))))
def ER:FS:=(a0 (eg (cT (c2 (cb δ) (c1 (vF wz "kind") ag) cH)) (vA (c2 zF (c1 (vF xi "start") ag) aN)) vG)
 (a0 (eg (cT (c2 (cb δ) (c1 (vF wz "kind") ag) jA)) (vA (vx wK (ax (c1 (vF xi "start") ag) (a1 (cL (vE 1 [] (iL aa) (gN 0) (cT (c2 (cb δ) (c1 (vF wz "kind") aa) cH)) (c1 (vF vY "name") aa))))))) vG)
 (vA (vx wK (ax (c1 (vF xi "start") ag) (a1 (cL (vE 1 [] (iL aa) (gN 0) (cT (vU wZ "can_hold" aa vP)) (c1 (vF vY "name") aa)))))))))
def ES:=dr 2 2 ER
abbrev dg:=(cC (.X γ))
def Ac:=dr 2 4 (a0 (vN 2 (c2 Er aa ag))
 (a0 (xS (r? (c1 w5 aa)) (gN 3) (a0 (eg (cT (c2 zF ah aN)) (vA dg) vG)
 (vN 2 (c2 Er aa ah))))
 (vA (c2 zF ah aN))))
abbrev du:=(ax ag bJ)
def A0:=dr 1 3 (a0 (wc (vx vK (ax (c1 zX (cL (vE 1 [0] (iL aa) (gN 0) wH (vx ES du)))) (a1 (cS "a start is none")))))
 (a0 (IH 1)
 (a0 (xS (iL aa) (gN 2) (zJ 1 (c1 (vF vY "name") ah) (c1 (vF xi "start") ah)))
 (wc (vx vK (ax (c1 zX (cL (vE 1 [1] (iD (nj 1)) (gN 0) wH (vx Ac du)))) (a1 (cS "a thing starts within itself"))))))))
def zZ:=dr 1 1 (a0 (eg (xG (xm (cT (c1 (wX (xy "tuple")) aa))) (xm (cT (yU zW zW az (c1 w5 aa) (cC CH))))) (vA cj) vG)
 (vA (wU (c1 zX (cL (vE 1 [] (iT aa) (gN 0) wH (vx yO bJ)))) (vx xQ bJ))))
def AC:=dr 2 2 (vA (c1 zX (cL (vE 1 [0] (iT ag) (gN 0) wH (c2 (j0 δ) aa ag)))))
def Ad:=dr 2 3 (a0 (vN 2 (cL (vE 1 [1] (iL aa) (gN 0) (cT (c2 (cb γ) (c1 (vF vY "name") aa) (c1 (vF vY "name") ag))) aa)))
 (vA (HC (c1 HE (cL (vE 1 [1] (iL ah) (gN 0) wH (vx AC (ax (c1 (vF xY "words") aa) (a1 (c1 (vF xY "words") ag))))))))))
def x3:=dr 1 2 (a0 (wc (vx vK (ax (c1 zX (cL (vE 1 [] (iL aa) (gN 0) wH (vx zZ (a1 (c1 (vF xY "words") aa)))))) (a1 (cS "a thing has 1 to 4 unlike words, as a tuple")))))
 (a0 (vN 1 (cL (wx zv bJ)))
 (wc (vx vK (ax (c1 zX (cL (vE 1 [1] (iL ag) (gN 0) wH (vx Ad du)))) (a1 (cS "one thing has all words of another")))))))
abbrev cI:=(ax aa (a1 ag))
def CM:FS:=(a0 (vN 2 (wU (c1 (wX (xy "list")) aa) (wU (c1 zX (cL (vE 1 [1] (iL aa) (gN 0) wH (vx wK cI)))) (vx xQ bJ))))
 (wc (vx vK (ax ah (a1 (cS "dark is a list of rooms' names, each once"))))))
def CN:=dr 2 3 CM
set_option r "bI 2;bw 3;cq 4" in abbrev ϑ0:=(cC (.int ϑ1))
abbrev bU:=(a1 ag)
abbrev hG:=(a1 (c2 b3 aa az))
abbrev tK:=(ax (c2 b3 aa bw) ck)
def I0:=dr 3 4 (a0 (eg (xG (xm (cT (c1 (wX (xy "tuple")) aa))) (cT (c2 (cb γ) (c1 w5 aa) cq))) (vA cj) vG)
 (a0 (vN 3 (D' (c2 zF (c2 b3 aa bw) aN) (vx wK tK)))
 (vA (wU (vx wK (ax (c2 b3 aa av) bU)) (wU (vx yO hG) (wU (vx wK (ax (c2 b3 aa bI) bU)) ay))))))
abbrev cw:=(ax ag (a1 ah))
abbrev hJ:=(ax aa cw)
def CO:=dr 3 4 (a0 (vN 3 (wU (vx wN (ax aa (a1 (cC Hm)))) (c1 zX (cL (vE 1 [1,2] (iL aa) (gN 0) wH (vx I0 hJ))))))
 (a0 (wc (vx vK (ax ay (a1 (cS "ways are a list of at most 10 tuples (room, word, room, mark)")))))
 (wc (vx vK (ax (vx xQ (a1 (cL (vE 1 [] (iL aa) (gN 0) wH (vQ (ax (c2 b3 aa av) hG)))))) (a1 (cS "two ways lead from one room by one word")))))))
abbrev fI:=(cS "two")
abbrev n8:=(a1 (c1 (vF vY "name") aa))
abbrev sX:=(a1 (c1 (vF yG "joining") aa))
def Ke:=dr 1 1 (a0 (eg (xG (xm (cT (c1 (wX Uo) aa))) (xG (xm (cT (vx zg n8))) (xm (cT (c1 (wX (xy "tuple")) (c1 (vF yH "others") aa)))))) (vA cj) vG)
 (a0 (eg (xG (xm (cT (c1 zX (cL (vE 1 [] (iT (c1 (vF yH "others") aa)) (gN 0) wH (vx zg bJ)))))) (xm (cT (vx wK (ax (c1 (vF yp "form") aa) (a1 (cC Pz))))))) (vA cj) vG)
 (vA (mw (cT (c2 (cb δ) (c1 (vF yp "form") aa) fI)) (vx yO sX) (c2 zF (c1 (vF yG "joining") aa) aN)))))
def zP:=dr 1 2 (a0 (vN 1 (wU (vx wN (ax aa (a1 (cC FQ)))) (c1 zX (cL (vE 1 [] (iL aa) (gN 0) wH (vx Ke bJ))))))
 (wc (vx vK (ax ag (a1 (cS "verbs are a list of at most 6 verbs"))))))
def z4:=dr 2 2 (vA (HC (c1 HE (cL (vE 1 [1] (iL aa) (gN 0) wH (c2 (j0 δ) aa ag))))))
abbrev bf:=(cV 6)
abbrev bP:=(cV 7)
abbrev kW:=(a1 (c1 (vF vY "name") bf))
def zc:=dr 3 8 (a0 (xO 3 (vO vP))
 (a0 (xS (iL (cL (wx zv bJ))) (gN 4) (wc (Es 3 (c1 (vF xY "words") aG))))
 (a0 (xO 5 (vO vP))
 (a0 (xS (iL ah) (gN 6) (wc (Es 5 (Ft (vQ kW) (c1 (vF yH "others") bf)))))
 (a0 (vN 7 (cL (xt (cL (vE 1 [] (iL ah) (gN 0) (cT (c2 yn (c1 (vF yG "joining") aa) aN)) (c1 (vF yG "joining") aa))) (cL (vE 1 [] (iL ag) (gN 0) wH (c2 b3 aa az))))))
 (a0 (wc (vx vK (ax (vx xQ (a1 (nj 5))) (a1 (cS "two verbs' names are alike")))))
 (a0 (wc (vx vK (ax (vx z4 (ax (cL (xt (nj 5) bP)) (a1 (nj 3)))) (a1 (cS "a verb's, way's or joining word is a word of a thing")))))
 (a0 (wc (vx vK (ax (vx z4 (ax (cL (xt (nj 5) bP)) (a1 (cC AV)))) (a1 (cS "the, a, undo or restart is a word of the world")))))
 (wc (vx vK (ax (vx z4 (ax bP (a1 (nj 5)))) (a1 (cS "a way's or joining word is a verb's name")))))))))))))
abbrev cE:=(a1 aG)
def BL:=dr 6 7 (a0 (wc (vx AZ bJ))
 (a0 (wc (vx BJ bU))
 (a0 (wc (vx BK cI))
 (a0 (wc (vx A0 bJ))
 (a0 (wc (vx x3 bJ))
 (a0 (vN 6 (cL (vE 1 [] (iL aa) (gN 0) (cT (c2 (cb δ) (c1 (vF wz "kind") aa) cH)) (c1 (vF vY "name") aa))))
 (a0 (wc (vx CN (ax ah (a1 bf))))
 (a0 (wc (vx CO (ax ay (ax bf (a1 (cL (wx zw cI)))))))
 (a0 (wc (vx zP cE))
 (wc (vx zc (ax aa (ax ay (a1 (cL (xt aG bq))))))))))))))))
def A1:=dr 4 4 (vA (wu 13 (λa=>yd (a++[])) (ax aa (ax ag (ax ah (ax ay (a1 cj)))))))
def xc:=dr 3 3 (vA (wu 13 (λa=>yd (a++[])) (ax aa (ax ag (ax (cL (vO vP)) (ax ah (a1 dg)))))))
abbrev cN:=(cS "it")
abbrev jx:=(cS "take")
abbrev jz:=(cS "here")
abbrev fJ:=(a1 cN)
def CP:=qt 1 1 (wW (vO (ax (vx xc (ax jx (ax (cL (vO (a1 (wu 7 (λa=>yc (a++[])) (ax cN (a1 (cS "fixed"))))))) (a1 (cS "That stays."))))) (ax (vx xc (ax jx (ax (cL (vO (a1 (wu 3 (λa=>Ef (a++[])) (ax cN bJ))))) (a1 (cS "You have that."))))) (ax (vx A1 (ax jx (ax (cL (vO vP)) (ax (cL (vO (a1 (wu 11 (λa=>zh (a++[])) (ax cN bJ))))) (a1 (cS "Taken.")))))) (ax (vx A1 (ax (cS "drop") (ax (cL (vO (a1 (wu 4 (λa=>CK (a++[])) fJ)))) (ax (cL (vO (a1 (wu 11 (λa=>zh (a++[])) (ax cN (a1 jz)))))) (a1 (cS "Dropped.")))))) (a1 (vx xc (ax (cS "drop") (ax (cL (vO vP)) (a1 (cS "You lack that."))))))))))))
abbrev iO:=(cS "other")
abbrev dU:=(cS "box")
abbrev f6:=(cS "put")
def DT:=qt 0 0 (wW (vO (ax (vx xc (ax f6 (ax (cL (vO (a1 (wu 9 (λa=>yh (a++[])) (a1 (wu 4 (λa=>CK (a++[])) fJ)))))) (a1 (cS "You lack that."))))) (ax (vx xc (ax f6 (ax (cL (vO (a1 (wu 9 (λa=>yh (a++[])) (a1 (wu 7 (λa=>yc (a++[])) (ax iO (a1 dU)))))))) (a1 (cS "It holds nothing."))))) (ax (vx xc (ax f6 (ax (cL (vO (a1 (wu 6 (λa=>xA (a++[])) (ax iO (a1 av)))))) (a1 (cS "It is shut."))))) (a1 (vx A1 (ax f6 (ax (cL (vO vP)) (ax (cL (vO (a1 (wu 11 (λa=>zh (a++[])) (ax cN (a1 iO)))))) (a1 (cS "Done."))))))))))))
abbrev kX:=(ax cN (a1 az))
abbrev kY:=(ax cN (a1 av))
abbrev jD:=(cS "open")
def DU:=qt 0 0 (wW (vO (ax (vx xc (ax jD (ax (cL (vO (a1 (wu 9 (λa=>yh (a++[])) (a1 (wu 7 (λa=>yc (a++[])) (ax cN (a1 dU)))))))) (a1 (cS "It has no lid."))))) (ax (vx xc (ax jD (ax (cL (vO (a1 (wu 6 (λa=>xA (a++[])) kX)))) (a1 (cS "It is open."))))) (ax (vx A1 (ax jD (ax (cL (vO vP)) (ax (cL (vO (a1 (wu 12 (λa=>zK (a++[])) kX)))) (a1 (cS "Opened.")))))) (ax (vx xc (ax (cS "shut") (ax (cL (vO (a1 (wu 9 (λa=>yh (a++[])) (a1 (wu 7 (λa=>yc (a++[])) (ax cN (a1 dU)))))))) (a1 (cS "It has no lid."))))) (ax (vx xc (ax (cS "shut") (ax (cL (vO (a1 (wu 6 (λa=>xA (a++[])) kY)))) (a1 (cS "It is shut."))))) (a1 (vx A1 (ax (cS "shut") (ax (cL (vO vP)) (ax (cL (vO (a1 (wu 12 (λa=>zK (a++[])) kY)))) (a1 (cS "Shut."))))))))))))))
abbrev f7:=(cS "lamp")
def BM:=qt 0 0 (wW (vO (ax (vx xc (ax (cS "light") (ax (cL (vO (a1 (wu 9 (λa=>yh (a++[])) (a1 (wu 7 (λa=>yc (a++[])) (ax cN (a1 f7)))))))) (a1 (cS "It burns not."))))) (ax (vx xc (ax (cS "light") (ax (cL (vO (a1 (wu 6 (λa=>xA (a++[])) kX)))) (a1 (cS "It is lit."))))) (ax (vx A1 (ax (cS "light") (ax (cL (vO vP)) (ax (cL (vO (a1 (wu 12 (λa=>zK (a++[])) kX)))) (a1 (cS "Lit.")))))) (ax (vx xc (ax (cS "douse") (ax (cL (vO (a1 (wu 9 (λa=>yh (a++[])) (a1 (wu 7 (λa=>yc (a++[])) (ax cN (a1 f7)))))))) (a1 (cS "It burns not."))))) (ax (vx xc (ax (cS "douse") (ax (cL (vO (a1 (wu 6 (λa=>xA (a++[])) kY)))) (a1 (cS "It is out."))))) (a1 (vx A1 (ax (cS "douse") (ax (cL (vO vP)) (ax (cL (vO (a1 (wu 12 (λa=>zK (a++[])) kY)))) (a1 (cS "Doused."))))))))))))))
abbrev og:=(a1 (c2 b3 ag av))
def DV:=qt 2 3 (a0 (xO 2 (vO (ax (wu 3 (λa=>Ef (a++[])) (ax aa og)) (a1 (wu 8 (λa=>DR (a++[])) (a1 (c2 b3 ag az)))))))
 (a0 (eg (cT (c2 yn (c2 b3 ag bw) aN)) (wc (zT 2 (wu 9 (λa=>yh (a++[])) (a1 (wu 6 (λa=>xA (a++[])) (ax (c2 b3 ag bw) (a1 av))))))) vG)
 (wW (Fm 2))))
abbrev nX:=(a1 (c2 b3 aa bI))
def ET:=qt 2 3 (a0 (vN 2 (cL (vE 1 [0] (iL ag) (gN 0) wH (vx A1 (ax (cS "go") (ax (cL (wx DV du)) (ax (cL (vO (a1 (wu 11 (λa=>zh (a++[])) (ax ag nX))))) (a1 (cS "You go.")))))))))
 (wW (xt ah (cL (vO (a1 (vx xc (ax (cS "go") (ax (cL (vO vP)) (a1 (cS "No way there.")))))))))))
def FU:=qt 0 0 (wW (vO (a1 (vx A1 (ax (cS "wait") (ax (cL (vO vP)) (ax (cL (vO vP)) (a1 (cS "Time goes by.")))))))))
def A2:=qt 2 2 (wW (xt (cL (xt (cL (xt (cL (xt (cL (xt (cL (wx CP bJ)) (cL (wx DT vP)))) (cL (wx DU vP)))) (cL (wx BM vP)))) (cL (wx ET cI)))) (cL (wx FU vP))))
abbrev sF:=(ax (cS "take") (ax (cS "drop") (ax jD (ax (cS "shut") (ax (cS "light") (a1 (cS "douse")))))))
abbrev c5:=(cS "way")
abbrev iP:=(cS "alone")
abbrev sV:=(ax f6 (ax (vQ vP) (ax fI (a1 (cS "in")))))
def zx:=qt 0 0 (wW (xt (cL (vE 1 [] (iT (vQ sF)) (gN 0) wH (wu 2 (λa=>yb (a++[D.U,(D.str "one"),D.U])) bJ))) (cL (vO (ax (wu 2 (λa=>yb (a++[])) sV) (ax (wu 2 (λa=>yb (a++[D.U])) (ax (cS "go") (ax (vQ vP) (a1 c5)))) (a1 (wu 2 (λa=>yb (a++[D.U])) (ax (cS "wait") (ax (vQ vP) (a1 iP)))))))))))
def GP:=dr 1 3 (a0 (IH 1)
 (a0 (xS (iL aa) (gN 2) (zJ 1 (c1 (vF vY "name") ah) ah))
 (vA (nj 1))))
def Ae:=dr 2 5 (a0 (IH 2)
 (a0 (xS (iL aa) (gN 3) (eg (cT (vU xZ "has_mark" ay vP)) (zJ 2 (c1 (vF vY "name") ay) az) vG))
 (a0 (xS (iL ag) (gN 4) (zJ 2 (c1 (vF vY "name") aG) (c1 (vF AS "most") aG)))
 (vA (nj 2)))))
def y4:=dr 1 4 (a0 (IH 1)
 (a0 (xS (iL aa) (gN 2) (xS (iT (Ft (vQ (a1 (c1 (vF vY "name") ah))) (c1 (vF yH "others") ah))) (gN 3) (zJ 1 ay ah)))
 (vA (nj 1))))
def Kg:FS:=(Of (vF zu "verb"))
def Kh:=dr 1 3 Kg
def Dt:=dr 2 2 (wW (vE 1 [1] (iL (c1 (vF xK "kept_things") aa)) (gN 0) (cT (c2 (cb δ) (c1 (vF wz "kind") aa) ag)) (c1 (vF vY "name") aa)))
def yY:Nat->Option (List D->Option D):=λc=>match c with
 |14=>Z Dt
 |_=>O
def Bp:=dr 1 1 (wW (xt (c1 (vF DM "kept_verbs") aa) (c1 (vF B9 "shared_verbs") aa)))
def y6:Nat->Option (List D->Option D):=λc=>match c with
 |14=>Z Bp
 |_=>O
def zy:=dr 2 2 (vA (wU (c1 (wX (xy "str")) aa) (c2 (cb δ) aa ag)))
def GQ:=dr 1 1 (vA (wu 13 (λa=>yd (a++[])) (ax (c1 (vF zu "verb") aa) (ax (c1 (vF Ed "tests") aa) (ax (c1 (vF B7 "deeds") aa) (ax (c1 (vF FJ "text") aa) (a1 (c1 (vF zY "refuses") aa))))))))
def x4:=dr 2 2 (vA (c2 MV (c1 (vF AU "things_by_name") aa) ag))
def v7:Nat->Option (List D->Option D):=λc=>match c with
 |14=>Z x4
 |_=>O
def yq:=dr 2 2 (vA (c2 Dp (c1 (vF Bk "mosts_by_name") aa) ag))
def xB:Nat->Option (List D->Option D):=λc=>match c with
 |14=>Z yq
 |_=>O
def yt:=dr 2 2 (vA (c2 Dp (c1 (vF Bl "verbs_by_word") aa) ag))
def xl:Nat->Option (List D->Option D):=λc=>match c with
 |14=>Z yt
 |_=>O
def MX:=dr 1 1 (vA (c1 (vF BH "your_name") aa))
def AD:Nat->Option (List D->Option D):=λc=>match c with
 |14=>Z MX
 |_=>O
abbrev nS:=(cS "one")
abbrev kZ:=(ax nS (a1 fI))
def xa:=dr 2 2 (a0 (eg (cT (vx zy (ax ag fJ))) (vA (c2 (j0 δ) aa (vQ kZ))) vG)
 (vA (wU (vx zy (ax ag (a1 iO))) (c2 (cb δ) aa fI))))
def zL:=dr 2 2 (vA (wU (c2 yn aa aN) (vx zy (ax ag (a1 jz)))))
def Bq:=dr 2 2 (vA (mw (cT (c1 (wX (xy "str")) ag)) (vU v7 "thing_of" aa bU) aN))
def Ao:=dr 3 3 (vA (wU (c2 yn (vx Bq cI) aN) (c2 (cb δ) (c1 (vF wz "kind") (vx Bq cI)) ah)))
abbrev dw:=(ax aa ck)
def Cd:=dr 3 3 (vA (D' (vx xa cw) (D' (vx zL cw) (c2 yn (vx Bq dw) aN))))
def CQ:=dr 3 3 (a0 (eg (xG (cT (vx xa cw)) (cT (vx zL cw))) (vA dg) vG)
 (vA (wU (c2 yn (vx Bq dw) aN) (vU wZ "can_hold" (vx Bq dw) vP))))
def EU:=dr 3 3 (a0 (eg (cT (vx xa cw)) (vA dg) vG)
 (vA (wU (c2 yn (vx Bq dw) aN) (HC (vx Ao (ax aa (ax ah (a1 cH))))))))
def y7:=dr 4 5 (a0 (eg (xG (xm (cT (vx AW f9))) (cT (c2 N0 ay av))) (vA cj) vG)
 (a0 (eg (cT (vx xa cw)) (vA (c2 zW ay (cC Bo))) vG)
 (a0 (vN 4 (mw (cT (c1 (wX (xy "str")) ah)) (vU xB "most_of" aa ck) aN))
 (vA (wU (c2 yn aG aN) (c2 zW ay aG))))))
set_option r "kQ Ca term;sU Ec place" in abbrev ϑ0:=(ax aa (ax ag (a1 (c1 (vF ϑ1 "ϑ2") ah))))
def GR:=dr 3 3 (a0 (eg (xG (xm (cT (vx EU kQ))) (xm (cT (vx CQ sU)))) (vA cj) vG)
 (vA (D' (c2 (cb γ) (c1 (vF Ca "term") ah) (vU AD "you" aa vP)) (vx Ao (ax aa (ax (c1 (vF Ec "place") ah) (a1 cH)))))))
def Ce:=dr 1 1 (vA (wU (c1 (wX (xy "str")) aa) (yU zW zW az (c1 w5 aa) (cC FN))))
def A3:=dr 2 2 (vA (wU (vx zg bU) (wU (c2 yn (vU xl "verb_of" aa bU) aN) (c2 (cb δ) (c1 (vF vY "name") (vU xl "verb_of" aa bU)) ag))))
def zz:=dr 1 1 (vA (wU (c1 (wX (xy "bool")) (c1 (vF zY "refuses") aa)) (D' (HC (c1 (vF zY "refuses") aa)) (c2 p' (c1 (vF B7 "deeds") aa) (cL (vO vP))))))
abbrev sO:=(ax aa (ax ag (ax (c1 (vF Ca "term") ah) (a1 (c1 (vF Ee "value") ah)))))
def Ag:=dr 3 3 (a0 (eg (cT (c1 (wX t_At) ah)) (vA (wU (vx Cd kQ) (vx CQ sU))) vG)
 (a0 (eg (cT (c1 (wX (tOr YI Um)) ah)) (vA (vx Cd kQ)) vG)
 (a0 (eg (cT (c1 (wX MW) ah)) (vA (vx y7 sO)) vG)
 (a0 (eg (cT (c1 (wX Uh) ah)) (vA (wU (vx Cd kQ) (vx wK (ax (c1 (vF wz "kind") ah) (a1 (cC FK)))))) vG)
 (a0 (eg (cT (c1 (wX Up) ah)) (vA (wU (c2 (cb δ) ag c5) (vx yO (a1 (c1 (vF IW "word") ah))))) vG)
 (vA (c1 (wX YJ) ah)))))))
abbrev oe:=(a1 (c2 Ep ay az))
def Cf(g:List D->Option D):FS:=(a0 (eg (cT (c2 (cb δ) ay av)) (vA cj) vG)
 (a0 (eg (cT (c1 (wX Uk) ah)) (vA (vx g (ax aa (ax ag (ax (c1 (vF GK "inner") ah) oe))))) vG)
 (a0 (eg (cT (c1 (wX Oo) ah)) (vA (wU (vx g (ax aa (ax ag (ax (c1 (vF Lh "one") ah) oe)))) (vx g (ax aa (ax ag (ax (c1 (vF GL "other") ah) oe)))))) vG)
 (vA (vx Ag hJ)))))
def zi:Nat->List D->Option D
 |0=>dr 4 4 QY
 |n+1=>dr 4 4 (Cf (zi n))
def GT:=dr 3 3 (a0 (eg (cT (c1 (wX YK) ah)) (vA (vx y7 sO)) vG)
 (vA (wU (c1 (wX Uj) ah) (vx GR hJ))))
def DW:=dr 3 3 (vA (wU (vx wN (ax ah (a1 (cC FL)))) (c1 zX (cL (vE 1 [0,1] (iL ah) (gN 0) wH (vx (zi 4) (ax ag (ax ah (ax aa (a1 (cC Hl)))))))))))
abbrev jE:=(ax ag (ax ah bJ))
def DX:=dr 3 3 (vA (wU (vx wN (ax ah (a1 (cC FM)))) (c1 zX (cL (vE 1 [0,1] (iL ah) (gN 0) wH (vx GT jE))))))
abbrev tu:=(a1 (c1 (vF zu "verb") ag))
def GU:=dr 2 3 (a0 (eg (xG (xm (cT (c1 (wX Ul) ag))) (xG (xm (cT (vx A3 (ax aa tu)))) (xm (cT (vx Ce (a1 (c1 (vF FJ "text") ag))))))) (vA cj) vG)
 (a0 (vN 2 (c1 (vF yp "form") (vU xl "verb_of" aa tu)))
 (vA (wU (vx DW (ax aa (ax ah (a1 (c1 (vF Ed "tests") ag))))) (wU (vx DX (ax aa (ax ah (a1 (c1 (vF B7 "deeds") ag))))) (vx zz bU))))))
def Ap:FS:=(a0 (wc (vx BL (ax ag (ax ah (ax ay (ax aG (ax bq (a1 (cL (wx zx vP))))))))))
 (a0 (wI 14 0 "kept_things" (cL (zf ag)))
 (a0 (wI 14 0 "kept_marks" (cL (zf ah)))
 (a0 (wI 14 0 "kept_dark" (cL (zf ay)))
 (a0 (wI 14 0 "kept_ways" (cL (zf aG)))
 (a0 (wI 14 0 "kept_verbs" (cL (zf bq)))
 (a0 (wI 14 0 "shared_verbs" (cL (wx zx vP)))
 (a0 (wI 14 0 "your_name" (Et 16 (c2 b3 (vU yY "of_kind" aa (a1 jA)) av)))
 (a0 (wI 14 0 "things_by_name" (vx GP bU))
 (a0 (wI 14 0 "mosts_by_name" (vx Ae cw))
 (a0 (wI 14 0 "verbs_by_word" (Et 16 (vx y4 (a1 (vU y6 "all_verbs" aa vP)))))
 (a0 (vN 7 (Et 16 (wU (vx wN (ax bf (a1 (cC FR)))) (c1 zX (cL (vE 1 [0] (iL bf) (gN 0) wH (vx GU du)))))))
 (a0 (wc (vx vK (ax bP (a1 (cS "rules are a list of at most 20 rules, each as it may be")))))
 (a0 (wI 14 0 "kept_rules" (cL (zf bf)))
 (a0 (wI 14 0 "shared_rules" (Et 16 (cL (wx A2 (ax (c1 (vF BH "your_name") aa) cE)))))
 (a0 (wI 14 0 "copied_rules" (cL (vE 1 [] (iL bf) (gN 0) wH (vx GQ bJ))))
 (wI 14 0 "rules_by_verb" (Et 16 (vx Kh (a1 (cL (xt (c1 (vF B6 "copied_rules") aa) (c1 (vF B8 "shared_rules") aa)))))))))))))))))))))))
def Aq:=rl 14 6 8 Ap
def HF:=dr 2 2 (vA (c2 (j0 δ) ag (c1 (vF Eu "kept_dark") aa)))
def FV:=dr 1 1 (wW (zf (c1 (vF AR "kept_marks") aa)))
def Ey:=dr 1 1 (wW (vE 1 [] (iL (c1 (vF xK "kept_things") aa)) (gN 0) wH (c1 (vF vY "name") aa)))
def Br:=dr 1 1 (wW (q? (cL (vE 1 [] (iL (c1 (vF BG "kept_ways") aa)) (gN 0) wH (c2 b3 aa az)))))
def xR:=dr 2 2 (wW (zf (DJ (c1 (vF zt "rules_by_verb") aa) ag (cL (vO vP)))))
abbrev gZ:=(cS "at")
abbrev kK:=(cS "mark")
abbrev sQ:=(ax (c1 (vF xK "kept_things") aa) (a1 (c1 (vF AR "kept_marks") aa)))
def BN:=dr 1 3 (a0 (vN 1 (cL (vE 1 [] (iL (c1 (vF xK "kept_things") aa)) (gN 0) (cT (c2 (cb γ) (c1 (vF wz "kind") aa) cH)) (vQ (ax gZ n8)))))
 (a0 (vN 2 (cL (vE 1 [] (iL (cL (wx zw sQ))) (gN 0) wH (vQ (ax kK bJ)))))
 (wW (GE (cL (xt ag ah))))))
set_option r "zQ HF;Ah FV;yI Ey;xM Br;zd xR;Bs BN" in def ϑ0:Nat->Option (List D->Option D):=λc=>match c with
 |14=>Z ϑ1
 |_=>O
def CS:=dr 1 3 (a0 (IH 1)
 (a0 (xS (iL (vU Ah "own_marks" aa vP)) (gN 2) (zJ 1 (c1 (vF vY "name") ah) (c1 (vF xi "start") ah)))
 (vA (nj 1))))
def yZ:=dr 3 3 (a0 (eg (cT (c2 (cb δ) (c2 b3 ah av) gZ)) (vA (c1 (vF xi "start") (vU v7 "thing_of" aa (a1 (c2 b3 ah az))))) vG)
 (vA (DJ ag (c2 b3 ah az) av)))
abbrev tP:=(ax aa (a1 (vx yZ jE)))
def xT:=dr 1 2 (a0 (vN 1 (vx CS bJ))
 (vA (zp (cL (vE 1 [0,1] (iL (vU Bs "parts" aa vP)) (gN 0) wH (vQ tP))))))
def CT:=dr 2 3 (a0 (xS (iT aa) (gN 2) (eg (cT (c2 (cb δ) (c2 b3 ah av) ag)) (vA (c2 b3 ah az)) vG))
 (vA aN))
abbrev tL:=(a1 (vQ (ax gZ bU)))
def Bt:=dr 2 2 (vA (vx CT (ax aa tL)))
abbrev tN:=(a1 (vQ (ax kK bU)))
def AE:=dr 2 2 (vA (vx CT (ax aa tN)))
def Bu:=dr 3 3 (vA (zp (cL (vE 1 [1,2] (iT aa) (gN 0) wH (mw (cT (c2 (cb δ) (c2 b3 aa av) ag)) (vQ cw) aa)))))
abbrev k7:=(ax ag cE)
def yP:=qt 3 5 (a0 (xO 3 (vO vP))
 (a0 (vN 4 (vx Bt cw))
 (a0 (whL (cT (c2 yn aG aN)) (a0 (wc (zT 3 aG))
 (vN 4 (vx Bt k7))) 50)
 (wW (Fm 3)))))
abbrev tJ:=(a1 (vU AD "you" aa vP))
def AF:=dr 2 2 (vA (vx Bt (ax ag tJ)))
def Uq:=dr 3 3 (vA (c2 (j0 δ) (vU AD "you" aa vP) (cL (wx yP hJ))))
def zM:=dr 3 3 (vA (wU (c2 (cb δ) (c1 (vF wz "kind") (vU v7 "thing_of" aa ck)) dU) (c2 (cb δ) (vx AE cw) av)))
abbrev ou:=(ax aa k7)
def zN:=dr 4 5 (a0 (xS (iL (cL (wx yP hJ))) (gN 4) (a0 (eg (cT (c2 (cb δ) aG ay)) (vA dg) vG)
 (eg (cT (vx zM ou)) (vA cj) vG)))
 (vA cj))
abbrev kR:=(ax ag (ax ah (a1 ay)))
abbrev om:=(ax aa kR)
def A8:=dr 4 4 (vA (wU (c2 (cb δ) (vx AE cw) az) (vx zN om)))
abbrev tG:=(ax ag (ax ah (ax aa f9)))
def FW:=dr 2 3 (a0 (vN 2 (vx AF cI))
 (a0 (eg (xm (cT (vU zQ "is_dark" aa ck))) (vA dg) vG)
 (vA (c1 HE (cL (vE 1 [0,1,2] (iL (vU yY "of_kind" aa (a1 f7))) (gN 0) wH (vx A8 tG)))))))
abbrev sS:=(ax aa (ax ag (ax ah tJ)))
abbrev tE:=(ax aa (ax ag (ax ah (a1 (vx AF cI)))))
def xD:=dr 3 4 (a0 (vN 3 (vU v7 "thing_of" aa ck))
 (a0 (eg (xG (cT (c2 zF ay aN)) (xm (cT (vU wR "is_plainly" ay vP)))) (vA cj) vG)
 (a0 (eg (cT (vx zN sS)) (vA dg) vG)
 (vA (wU (vx zN tE) (vx FW cI))))))
def A9:=qt 2 2 (wW (CC (cL (vE 1 [0,1] (iL (vU yI "names" aa vP)) (gN 0) (cT (vx xD jE)) aa))))
def Bv:=dr 2 3 (a0 (vN 2 (mw (cT (c2 zF ag aN)) aN (vU xl "verb_of" aa og)))
 (vA (wU (c2 yn ah aN) (c2 (cb δ) (c1 (vF yp "form") ah) c5))))
abbrev dX:=(a1 aN)
abbrev sW:=(ax (c2 b3 ag az) (a1 (c2 b3 ag bI)))
abbrev iQ:=(ax aN dX)
def xC:=dr 2 2 (a0 (eg (xG (cT (c2 zF ag aN)) (cT (vx Bv cI))) (vA (vQ iQ)) vG)
 (vA (vQ sW)))
def xg:=dr 4 4 (a0 (eg (cT (c2 (cb δ) ay jz)) (vA (vx AF cI)) vG)
 (a0 (eg (cT (c2 (cb δ) ay cN)) (vA (c2 b3 (vx xC dw) av)) vG)
 (a0 (eg (cT (c2 (cb δ) ay iO)) (vA (c2 b3 (vx xC dw) az)) vG)
 (vA ay))))
def EV:=dr 2 3 (a0 (vN 2 (vU v7 "thing_of" aa bU))
 (vA (mw (xG (cT (c2 zF ah aN)) (cT (c2 (cb δ) (c1 (vF wz "kind") ah) cH))) (cL (vO vP)) (cL (vO tL)))))
def Ar:=dr 2 2 (vA (mw (cT (c2 zF (vU xB "most_of" aa bU) aN)) (cL (vO vP)) (cL (vO tN))))
def FX:=dr 3 4 (a0 (vN 3 (vU v7 "thing_of" aa ck))
 (vA (wU (c2 (cb γ) (vx EV cI) (cL (vO vP))) (wU (c2 yn ay aN) (wU (vU wZ "can_hold" ay vP) (c2 (cb γ) ah ag))))))
def EW:=dr 3 3 (vA (wU (c2 (cb γ) (vx Ar cI) (cL (vO vP))) (c2 zW ah (vU xB "most_of" aa bU))))
set_option r "hE Ca term;nZ Ec place" in abbrev ϑ0:=(ax ag (ax ah (ax ay (a1 (c1 (vF ϑ1 "ϑ2") aa)))))
def EX:=dr 4 6 (a0 (vN 4 (vx xg hE))
 (a0 (vN 5 (vx Bt (ax ah cE)))
 (vA (wU (c2 yn bq aN) (c2 (cb δ) bq (vx xg nZ))))))
abbrev oj:=(ax ah (a1 (vx xg hE)))
def Ht:=dr 4 4 (vA (vx Uq (ax ag oj)))
def FY:=dr 4 4 (vA (vx xD (ax ag oj)))
def Ba:=dr 4 5 (a0 (vN 4 (vx AE oj))
 (vA (wU (c2 yn aG aN) (c2 (cb δ) aG (c1 (vF Ee "value") aa)))))
def FZ:=dr 4 5 (a0 (vN 4 (vU v7 "thing_of" ag (a1 (vx xg hE))))
 (vA (wU (c2 yn aG aN) (c2 (cb δ) (c1 (vF wz "kind") aG) (c1 (vF wz "kind") aa)))))
def F0:=dr 4 4 (vA (wU (vx Bv (ax ag f9)) (c2 (cb δ) (c2 b3 ay az) (c1 (vF IW "word") aa))))
def Hu:=dr 4 4 (vA (vx FW cw))
def z5(g:Nat->Option (List D->Option D)):FS:=(vA (HC (vU g "holds" (c1 (vF GK "inner") aa) kR)))
def zA(g:Nat->Option (List D->Option D)):FS:=(vA (wU (vU g "holds" (c1 (vF Lh "one") aa) kR) (vU g "holds" (c1 (vF GL "other") aa) kR)))
def CU:Nat->Option (List D->Option D):=λc=>match c with
 |3=>Z EX
 |4=>Z Ht
 |5=>Z FY
 |6=>Z Ba
 |7=>Z FZ
 |8=>Z F0
 |15=>Z Hu
 |_=>O
def wG:Nat->Nat->Option (List D->Option D)
 |0=>CU
 |n+1=>λc=>match c with
  |9=>Z (dr 4 4 (z5 (wG n)))
  |10=>Z (dr 4 4 (zA (wG n)))
  |c=>CU c
abbrev kU:=(ax ag (ax ah (a1 bq)))
abbrev oa:=(a1 bq)
abbrev oo:=(ax aG oa)
def Bw:=dr 4 6 (a0 (vN 4 (vx xg hE))
 (a0 (vN 5 (vx xg nZ))
 (a0 (eg (xG (xm (cT (vx FX (ax ag oo)))) (cT (c2 (j0 δ) aG (cL (wx yP kU))))) (vA aN) vG)
 (vA (vx Bu (ax ah (ax (vQ (ax gZ cE)) oa)))))))
abbrev n5:=(a1 (c1 (vF Ee "value") aa))
def EY:=dr 4 5 (a0 (vN 4 (vx xg hE))
 (a0 (eg (xm (cT (vx EW (ax ag (ax aG n5))))) (vA aN) vG)
 (vA (vx Bu (ax ah (ax (vQ (ax kK cE)) n5))))))
def CV:Nat->Option (List D->Option D):=λc=>match c with
 |11=>Z Bw
 |12=>Z EY
 |_=>O
def z6:=dr 2 3 (a0 (vN 2 (mw (cT (c1 (wX (xy "str")) ag)) (vU v7 "thing_of" aa bU) aN))
 (vA (wU (c2 yn ah aN) (vU wR "is_plainly" ah vP))))
def DY:=dr 4 4 (a0 (eg (cT (c2 (cb δ) ag fI)) (vA (wU (vx z6 dw) (vx z6 (ax aa f9)))) vG)
 (a0 (eg (cT (c2 yn ay aN)) (vA cj) vG)
 (a0 (eg (cT (c2 (cb δ) ag c5)) (vA (wU (c1 (wX (xy "str")) ah) (c2 (j0 δ) ah (vU xM "way_words" aa vP)))) vG)
 (vA (mw (cT (c2 (cb δ) ag iP)) (c2 zF ah aN) (vx z6 dw))))))
def CW:=dr 2 3 (a0 (eg (xG (xm (cT (c1 (wX (xy "tuple")) ag))) (xG (cT (c2 (cb γ) (c1 w5 ag) bw)) (xm (cT (c1 (wX (xy "str")) (c2 b3 ag av)))))) (vA cj) vG)
 (a0 (vN 2 (vU xl "verb_of" aa og))
 (vA (wU (c2 yn ah aN) (wU (c2 (cb δ) (c1 (vF vY "name") ah) (c2 b3 ag av)) (vx DY (ax aa (ax (c1 (vF yp "form") ah) sW))))))))
def y8:=dr 2 2 (eg (xm (cT (vx CW cI))) QY vG)
def Li:=dr 4 5 (a0 (xS (iL (c1 (vF Ed "tests") ay)) (gN 4) (eg (xm (cT (vU (wG 3) "holds" aG hJ))) (vA cj) vG))
 (vA dg))
abbrev tD:=(a1 (c1 (vF FJ "text") ay))
def Eg:=dr 4 6 (a0 (eg (cT (c1 (vF zY "refuses") ay)) (vA (vQ (ax (vQ (ax (cS "refused") tD)) bU))) vG)
 (a0 (vN 4 ag)
 (a0 (xS (iL (c1 (vF B7 "deeds") ay)) (gN 5) (a0 (vN 4 (vU CV "done" bq (ax aa (ax aG ck))))
 (eg (cT (c2 zF aG aN)) (vA (vQ (ax (vQ (ax (cS "refused") (a1 (cC Hk)))) bU))) vG)))
 (vA (vQ (ax (vQ (ax (cS "told") tD)) cE))))))
def EZ:=dr 4 6 (a0 (xS (iT (vx xC dw)) (gN 4) (eg (xI (cT (c2 yn aG aN)) (cT (c2 (j0 γ) aG ay))) (vA (vQ (ax (vQ (ax (cS "unseen") cE)) bU))) vG))
 (a0 (xS (iL (vU zd "rules_to_try" aa (a1 (c2 b3 ah av)))) (gN 5) (eg (cT (vx Li (ax aa kU))) (vA (vx Eg (ax aa kU))) vG))
 (vA (vQ (ax (vQ (ax (cS "refused") (a1 (cC Dr)))) bU)))))
def Lj:=dr 3 4 (a0 (wc (vx y8 dw))
 (a0 (vN 3 (cL (vE 1 [0,1] (iT (vx xC dw)) (gN 0) (cT (vx xD jE)) aa)))
 (vA (vx EZ om))))
def yQ:FS:=(a0 (eg (cT (c2 (cb δ) ag iP)) (wW (vO (a1 (vQ iQ)))) vG)
 (a0 (eg (cT (c2 (cb δ) ag c5)) (wW (vE 1 [] (iL (vU xM "way_words" aa vP)) (gN 0) wH (vQ (ax aa dX)))) vG)
 (a0 (vN 2 (cL (vE 1 [0] (iL (vU yI "names" aa vP)) (gN 0) (cT (vU wR "is_plainly" (vU v7 "thing_of" ag bJ) vP)) aa)))
 (a0 (eg (cT (c2 (cb δ) ag nS)) (wW (vE 1 [] (iL ah) (gN 0) wH (vQ (ax aa dX)))) vG)
 (a0 (xO 3 (vO vP))
 (a0 (xS (iL ah) (gN 4) (wc (Ir 3 (vE 1 [4] (iL ah) (gN 0) wH (vQ du)))))
 (wW (Fm 3))))))))
def yR:=qt 2 5 yQ
abbrev kF:=(wq (gN 0) (wq (gN 1) Bi))
abbrev kT:=(ax aa (a1 (c1 (vF yp "form") ah)))
abbrev k6:=(ax (c1 (vF vY "name") ah) cI)
def E1:FS:=(a0 (xO 1 (vO vP))
 (a0 (xS (iL (vU y6 "all_verbs" aa vP)) (gN 2) (wc (Ir 1 (vE 2 [2] (iL (cL (wx yR kT))) (gT kF 2) wH (vQ k6)))))
 (wW (Fm 1))))
def E2:=qt 1 3 E1
abbrev dj:=(cS "")
def CY:=dr 1 1 (vA (zp (cL (vE 1 [] (iL (cL (Y' aa (cS " ")))) (gN 0) (xI (cT (c2 (cb γ) aa dj)) (cT (c2 (j0 γ) aa kJ))) aa))))
abbrev sR:=(ax (Lf aa oNo (o3 ah)) (a1 (Lf aa (o3 (c2 wF ah az)) oNo)))
def Ai:=dr 2 4 (a0 (eg (cT (c2 (j0 γ) ag aa)) (vA aN) vG)
 (a0 (vN 2 (c2 pw aa ag))
 (a0 (vN 3 (vQ sR))
 (vA (mw (cT (c2 Rr (vQ vP) ay)) aN ay)))))
def CZ:=dr 2 2 (a0 (eg (cT (c2 (cb δ) (c1 (vF yp "form") aa) iP)) (vA (mw (cT (c2 (cb δ) (c1 w5 ag) av)) (vQ vP) aN)) vG)
 (a0 (eg (cT (c2 (cb δ) (c1 (vF yp "form") aa) fI)) (vA (vx Ai (ax ag sX))) vG)
 (a0 (eg (cT (c2 (cb δ) (c1 (vF yp "form") aa) c5)) (vA (mw (cT (c2 (cb δ) (c1 w5 ag) az)) (vQ bU) aN)) vG)
 (vA (mw (cT (c2 DG (c1 w5 ag) av)) (vQ bU) aN)))))
def zj:=dr 3 3 (vA (c1 zX (cL (vE 1 [1,0] (iT ah) (gN 0) wH (c2 (j0 δ) aa (c1 (vF xY "words") (vU v7 "thing_of" ah bU)))))))
abbrev kM:=(cS "command")
def E3:=dr 3 3 (a0 (eg (cT (c2 (j0 γ) ah (vU xM "way_words" aa vP))) (vA (vQ (ax (cS "noway") ck))) vG)
 (vA (vQ (ax kM (a1 (vQ (ax (c1 (vF vY "name") ag) (ax ah dX))))))))
abbrev bT:=(cV 8)
def BO:=dr 4 9 (a0 (vN 4 (cL (wx A9 cI)))
 (a0 (xO 5 (vO vP))
 (a0 (xS (iT ay) (gN 6) (a0 (vN 7 (cL (vE 1 [0,6] (iL aG) (gN 0) (cT (vx zj (ax ag dw))) aa)))
 (a0 (eg (cT (c2 (cb δ) (c1 w5 bP) av)) (vA (vQ (ax (cS "none") (a1 bf)))) vG)
 (a0 (eg (cT (c2 DG (c1 w5 bP) az)) (vA (vQ (ax (cS "which") (ax bf (a1 (zp bP)))))) vG)
 (wc (zT 5 (c2 b3 bP av)))))))
 (a0 (vN 8 (cL (xt (nj 5) (cL (vO iQ)))))
 (vA (vQ (ax kM (a1 (vQ (ax (c1 (vF vY "name") ah) (ax (c2 b3 bT av) (a1 (c2 b3 bT az)))))))))))))
abbrev oh:=(ax bq (a1 bf))
def Ja:=dr 3 7 (a0 (vN 3 (vx CY ck))
 (a0 (vN 4 (mw (cT (c2 DG (c1 w5 ay) av)) (c2 b3 ay av) dj))
 (a0 (vN 5 (vU xl "verb_of" aa cE))
 (a0 (eg (cT (c2 zF bq aN)) (vA (vQ (ax (cS "noverb") cE))) vG)
 (a0 (vN 6 (vx CZ (ax bq (a1 (K9 ay (Z 1) O)))))
 (a0 (eg (cT (c2 zF bf aN)) (vA (vQ (ax (cS "noform") (a1 (c1 (vF vY "name") bq))))) vG)
 (a0 (eg (cT (c2 (cb δ) (c1 (vF yp "form") bq) c5)) (vA (vx E3 (ax aa (ax bq (a1 (c2 b3 (c2 b3 bf av) av)))))) vG)
 (vA (vx BO (ax aa (ax ag oh)))))))))))
def x9:=dr 2 2 (a0 (eg (cT (c2 N0 ag (c1 w5 aa))) (vA (c2 b3 aa ag)) vG)
 (vA av))
abbrev kH:=(cC (.int 10))
abbrev nU:=(cC (.int 2147483647))
def yS:=qt 2 6 (a0 (xO 2 (vO vP))
 (a0 (vN 3 aa)
 (a0 (xS (r? ag) (gN 4) (eg (xI (cT (c2 dGeI aa (c2 SX kH (cC (.int 18))))) (cT (c2 DG ay av))) (a0 (wc (zT 2 (c2 vZ ay (cC (.int 10007)))))
 (vN 3 (c2 wY ay (cC (.int 10007))))) (a0 (vN 5 (c2 vZ (c2 ym (c2 wF (c2 wF (c2 vZ aa nU) (c2 ym (cC (.int 7919)) aG)) az) (cC (.int 48271))) nU))
 (a0 (vN 5 (c2 vZ (c2 ym bq (c2 wF (c2 wY bq (cC (.int 1009))) (cC (.int 69621)))) nU))
 (wc (zT 2 (c2 vZ (c2 ym bq (c2 wF (c2 wY bq (cC (.int 2003))) (cC (.int 40692)))) (cC (.int 2147483399)))))))))
 (wW (Fm 2)))))
def Da:=dr 1 3 (a0 (vN 1 (cL (vO (ax (cS "b") (ax (cS "ba") (ax (cS "bab") (ax (cS "babe") (ax (cS "c") (ax (cS "cab") (ax (cS "not") (ax jx (ax (cS "lit") (ax f7 (ax (cS "x") (ax (cS "xx") (ax jD (ax (cS "both") (a1 (cS "zz")))))))))))))))))))
 (a0 (vN 1 (cL (xt ag (cL (vO (ax (cS "hall") (a1 (cS "seen"))))))))
 (a0 (vN 2 (c2 b3 (cL (vO (ax dj (ax dj (ax (cS "q") (a1 (cS "ek"))))))) (c2 vZ (c2 b3 aa av) cq)))
 (wW (vE 1 [2,1,0] (r? (cC (.int 14))) (gN 0) wH (c2 DH ag (c2 b3 ah (c2 vZ (c2 wF (c2 b3 ay az) (c2 ym aa (c2 wF az (c2 vZ (c2 b3 ay bI) (cC (.int 16)))))) (cC (.int 17))))))))))
set_option r "cB 5;dh 7;dS 8;gY 6" in abbrev ϑ0:=(cC (.int ϑ1))
abbrev sN:=(ax az (ax az (ax bI (ax bI (ax cq (ax gY (ax dh (a1 (cC (.int 24))))))))))
def Dc:=dr 2 7 (a0 (vN 2 (cL (vO (ax (cS "red") (ax (cS "re") (ax (cS "taken") (ax (cS "old") (a1 (cS "openly")))))))))
 (a0 (vN 3 (cL (vO (ax (cS "key") (ax (cS "keys") (ax (cS "bowl") (ax (cS "b") (a1 (cS "nothing")))))))))
 (a0 (vN 4 (c2 vZ (c2 wF (c2 b3 aa bw) (c2 ym ag (c2 b3 (cL (vO sN)) (c2 vZ (c2 b3 aa cq) dS)))) (cC (.int 25))))
 (a0 (vN 5 (c2 b3 (cL (vO (ax dj (ax (cS "q") (a1 (cS "zu")))))) (c2 vZ (c2 b3 aa cB) bw)))
 (a0 (xO 6 (vO (ax (c2 DH (c2 b3 ah (c2 vZ aG cB)) bq) (a1 (c2 DH (c2 b3 ay (c2 wY aG cB)) bq)))))
 (a0 (eg (cT (c2 (cb δ) (c2 vZ (c2 wY (c2 b3 aa gY) (c2 wF az ag)) bw) av)) (wc (O? 6 (c2 vZ (c2 wY (c2 b3 aa dh) (c2 wF az ag)) bw) (c2 b3 (cL (vO (ax (cS "x") (ax (cS "dusty") (a1 (cS "most")))))) (c2 vZ (c2 wY (c2 b3 aa dS) (c2 wF az ag)) bw)))) vG)
 (vA (zp (nj 6)))))))))
abbrev dq:=(cV 9)
abbrev jy:=(cC (.int 9))
abbrev kO:=(cC (.int 12))
def zR:=dr 2 10 (a0 (vN 2 (cL (Dy ag oNo (o3 (c2 wF az (c2 vZ (c2 b3 aa jy) bw))))))
 (a0 (vN 3 (c2 b3 ag bw))
 (a0 (xO 4 (vE 1 [] (iL ah) (gN 0) wH (vQ (ax aa (ax (vQ (a1 cH)) (ax cH dX))))))
 (a0 (vN 5 (c2 b3 ah (c2 vZ (c2 b3 aa kH) (c1 w5 ah))))
 (a0 (wc (zT 4 (vQ (ax ay (ax (vQ (ax (cS "me") (a1 (cS "myself")))) (ax jA oa))))))
 (a0 (xO 6 (xt ah (cL (vO (ax ay (ax bq (ax bq f9)))))))
 (a0 (xS (r? (c2 vZ (c2 b3 aa (cC (.int 11))) gY)) (gN 7) (a0 (vN 8 (c2 b3 (cL (vO (ax (cS "plain") (ax dU (ax f7 (ax (cS "fixed") (a1 dU))))))) (c2 vZ (c2 b3 aa (c2 wF kO bP)) cB)))
 (a0 (wc (zT 4 (vQ (ax (c2 b3 ag (c2 wF cq bP)) (ax (vx Dc (ax aa (a1 bP))) (ax bT (a1 (KU (c2 b3 bf (c2 vZ (c2 wY (c2 b3 aa (c2 wF kO bP)) cB) (c1 w5 bf)))))))))))
 (eg (cT (c2 (cb δ) bT dU)) (wc (zT 6 (c2 b3 ag (c2 wF cq bP)))) vG))))
 (a0 (vN 9 (KU (c2 vZ (c2 b3 aa (cC (.int 18))) (c1 w5 aG))))
 (wW (xt (cL (Dy (nj 4) (o3 dq) oNo)) (cL (Dy (nj 4) oNo (o3 dq)))))))))))))
def As:=dr 2 5 (a0 (xO 2 (vO vP))
 (a0 (xS (r? (c2 vZ (c2 b3 aa (cC (.int 19))) bw)) (gN 3) (a0 (vN 4 (c2 wF az (c2 vZ (c2 b3 aa (c2 wF (cC (.int 20)) ay)) bw)))
 (wc (zT 2 (vQ (ax (c2 b3 ag (c2 wF kH ay)) (ax (c2 vZ (c2 wY (c2 b3 aa (c2 wF (cC (.int 20)) ay)) bw) (c2 wF aG az)) cE)))))))
 (wW (Fm 2))))
def zO:=dr 2 3 (a0 (vN 2 (cL (vE 1 [] (iL aa) (gN 0) (xG (cT (c2 (cb δ) (c2 b3 aa bI) dU)) (cT (c2 (cb δ) (c2 b3 aa bI) f7))) (vQ (ax (c2 b3 aa av) (a1 az))))))
 (wW (xt ah (cL (vE 1 [] (iL ag) (gN 0) wH (vQ (ax (c2 b3 aa av) nX)))))))
abbrev dW:=(cV 10)
abbrev sJ:=(wq (gN 7) (wq (gN 8) (wq (gN 9) Bi)))
abbrev sZ:=(ax bT (ax dq (a1 dW)))
def BA:=dr 3 11 (a0 (vN 3 (cL (vO (ax (cS "north") (ax (cS "up") (ax (cS "in") (ax (cS "n") (a1 (cS "upward")))))))))
 (a0 (xO 4 (vO vP))
 (a0 (xS (r? (c2 vZ (c2 b3 aa (cC (.int 22))) cB)) (gN 5) (a0 (vN 6 (c2 b3 aa (c2 wF (cC (.int 23)) bq)))
 (a0 (Fl (vQ (ax (c2 b3 ag (c2 vZ bf (c1 w5 ag))) (ax (c2 b3 ay (c2 vZ (c2 wY bf bw) cB)) (a1 (c2 b3 ag (c2 vZ (c2 wY bf (cC (.int 15))) (c1 w5 ag))))))) (gT sJ 3))
 (a0 (vN 10 (c2 b3 (cL (xt (cL (vO iQ)) (cL (vE 1 [] (iL ah) (gN 0) wH (c2 b3 aa av))))) (c2 vZ (c2 wY bf (cC (.int 45))) (c2 wF bI (c1 w5 ah)))))
 (eg (G4 (cT (c2 p' (cL (vE 1 [7,8] (iL aG) (gN 0) (cT (c2 (cb δ) (K9 aa O (Z 2)) (vQ cw))) aa)) (cL (vO vP))))) (wc (zT 4 (vQ (ax bP sZ)))) vG)))))
 (wW (Fm 4)))))
abbrev tI:=(ax (vQ vP) (ax iP dX))
abbrev oq:=(ax nS dX)
def Dg:=dr 1 2 (a0 (vN 1 (cL (vO (ax (vQ (ax (cS "give") (ax (vQ (ax (cS "hand") (a1 (cS "g")))) (ax fI (a1 (cS "to")))))) (ax (vQ (ax (cS "hum") tI)) (a1 (vQ (ax (cS "push") (ax (vQ (a1 (cS "shove"))) oq)))))))))
 (a0 (vN 1 (cL (xt ag (cL (vO (ax (vQ (ax (cS "sail") (ax (vQ (a1 (cS "s"))) (ax c5 dX)))) (ax (vQ (ax (cS "tie") (ax (vQ vP) (ax fI (a1 (cS "with")))))) (a1 (vQ (ax (cS "l") (ax (vQ (ax (cS "look") (a1 (cS "peer")))) oq)))))))))))
 (wW (vE 1 [1,0] (r? gY) (gN 0) (cT (c2 (cb δ) (c2 μ (c2 ξ (c2 b3 ah (cC (.int 28))) aa) az) az)) (c2 b3 ag aa)))))
def xU:=qt 0 2 (a0 (vN 0 (cL (vO sF)))
 (a0 (vN 1 (cL (vE 1 [] (iL aa) (gN 0) wH (vQ (ax aa (ax (vQ vP) oq))))))
 (wW (xt ag (cL (vO (ax (vQ sV) (ax (vQ (ax (cS "go") (ax (vQ vP) (ax c5 dX)))) (a1 (vQ (ax (cS "wait") tI)))))))))))
abbrev dt:=(cV 11)
abbrev kP:=(cC (.int 90))
abbrev sM:=(wq (gN 9) (wq (gN 10) Bi))
abbrev nY:=(ax ag (ax ah (ax ay (ax aG (a1 (c2 Ep bq az))))))
abbrev jC:=(ax cN (ax iO (a1 cN)))
def BB(g:List D->Option D):FS:=(a0 (vN 6 (cL (xt ah (DJ (Hg [("one", (cL (vO fJ))),("two", (cL (vO jC)))]) ag (cL (vO vP))))))
 (a0 (vN 7 (c2 b3 bf (c2 vZ (c2 wY aa jy) (c1 w5 bf))))
 (a0 (vN 8 (c2 vZ aa jy))
 (a0 (eg (cT (c2 (cb δ) bT av)) (vA (vQ (ax gZ (ax bP (a1 (c2 b3 ay (c2 vZ (c2 wY aa kP) (c1 w5 ay)))))))) vG)
 (a0 (eg (xG (cT (c2 (cb δ) bT az)) (cT (c2 (cb δ) bT bI))) (vA (vQ (ax (c2 b3 (cL (vO (ax (cS "has") (a1 (cS "seen"))))) (c2 Ep bT az)) (a1 bP)))) vG)
 (a0 (eg (xI (cT (c2 (cb δ) bT bw)) (cT (c2 (cb γ) aG (cL (vO vP))))) (a0 (Fl (c2 b3 aG (c2 vZ (c2 wY aa kP) (c1 w5 aG))) (gT sM 2))
 (vA (vQ (ax (cS "marked") (ax dq (a1 (c2 vZ (c2 wY aa (cC (.int 900))) (c2 wF dW az)))))))) vG)
 (a0 (eg (cT (c2 (cb δ) bT cq)) (vA (vQ (ax (cS "kind") (ax bP (a1 (c2 b3 (cL (vO (ax (cS "plain") (ax dU (ax f7 (a1 (cS "fixed"))))))) (c2 vZ (c2 wY aa kP) cq))))))) vG)
 (a0 (eg (xI (cT (c2 (cb δ) bT cB)) (cT (c2 (cb δ) ag c5))) (vA (vQ (ax (cS "word") (a1 (c2 b3 (cL (vO (ax (cS "north") (ax (cS "up") (a1 (cS "in")))))) (c2 vZ (c2 wY aa kP) bw)))))) vG)
 (a0 (eg (xI (cT (c2 (cb δ) bT gY)) (cT (c2 DG bq az))) (vA (vQ (ax (cS "not") (a1 (vx g (ax (c2 wY aa dh) nY)))))) vG)
 (a0 (eg (xI (cT (c2 (cb δ) bT dh)) (cT (c2 DG bq az))) (a0 (vN 11 (vx g (ax (c2 wY aa (cC (.int 11))) nY)))
 (vA (vQ (ax (cS "both") (ax dt (a1 (vx g (ax (c2 wY aa (cC (.int 13))) nY)))))))) vG)
 (vA (vQ (a1 (cS "lit"))))))))))))))
def xp:Nat->List D->Option D
 |0=>dr 6 12 QY
 |n+1=>dr 6 12 (BB (xp n))
abbrev kG:=(cC (.int 50))
abbrev nT:=(cS "move")
set_option r "V f bq;W T ay" in abbrev nϑ0:=(ax nT (ax bϑ1 (a1 (c2 b3 ϑ2 (c2 vZ (c2 wY aa kG) (c1 w5 ϑ2))))))
abbrev sT:=(ax f6 (ax cN (a1 (c2 vZ (c2 wY aa kG) cq))))
def z7:=dr 7 11 (a0 (vN 7 (cL (xt ah (DJ (Hg [("one", (cL (vO fJ))),("two", (cL (vO jC)))]) ag (cL (vO vP))))))
 (a0 (vN 8 (c2 b3 bP (c2 vZ (c2 wY aa cB) (c1 w5 bP))))
 (a0 (eg (xI (cT (c2 (cb δ) (c2 vZ aa cB) av)) (cT (c2 (cb γ) aG (cL (vO vP))))) (a0 (Fl (c2 b3 aG (c2 vZ (c2 wY aa kG) (c1 w5 aG))) (gT sM 2))
 (vA (vQ (ax f6 (ax dq (a1 (c2 vZ (c2 wY aa (cC (.int 500))) (c2 wF dW az)))))))) vG)
 (a0 (eg (xI (cT (c2 (cb δ) (c2 vZ aa cB) az)) (cT (c2 (j0 δ) ag (vQ kZ)))) (vA (vQ sT)) vG)
 (a0 (eg (cT (c2 (cb δ) bT bf)) (vA (vQ nV)) vG)
 (vA (vQ nW)))))))
abbrev sD:=(ax (cS "So be it.") (ax (cS " two  blanks ") (ax (cS "x") (ax (cS "refuses at it") (a1 (c2 II (cS "~") (cC (.int 60))))))))
abbrev sG:=(ax (cV 13) (ax (cV 17) (ax (cV 19) (ax (cV 20) (a1 (cV 18))))))
abbrev di:=(cV 12)
def Au:=dr 4 21 (a0 (vN 4 (cL (wx yS (ax aa (a1 (cC (.int 40)))))))
 (a0 (vN 5 (cL (vE 1 [] (iL ag) (gN 0) (cT (c2 (cb δ) (c2 b3 aa bI) cH)) (c2 b3 aa av))))
 (a0 (vN 6 (c2 b3 (cL (vE 1 [] (iL ag) (gN 0) (cT (c2 (cb δ) (c2 b3 aa bI) jA)) (c2 b3 aa av))) av))
 (a0 (vN 7 (cL (vE 1 [] (iL ag) (gN 0) (cT (c2 (cb γ) (c2 b3 aa bI) cH)) (c2 b3 aa av))))
 (a0 (vN 8 (cL (xt (cL (xt bq (cL (vO (ax bf (a1 jz)))))) (cL (vE 1 [] (iL ag) (gN 0) (cT (c2 (cb δ) (c2 b3 aa bI) dU)) (c2 b3 aa av))))))
 (a0 (vN 9 (cL (xt ay (cL (wx xU vP)))))
 (a0 (xO 10 (vO vP))
 (a0 (xS (r? (c2 vZ (c2 b3 aG av) cB)) (gN 11) (a0 (vN 12 (cL (Dy aG (o3 (c2 wF az (c2 ym dh dt))) (o3 (c2 wF dS (c2 ym dh dt))))))
 (a0 (Fl (c2 b3 dq (c2 vZ (c2 b3 di av) (c1 w5 dq))) (gT (wq (gN 13) (wq (gN 14) (wq (gN 15) (wq (gN 16) Bi)))) 4))
 (a0 (vN 17 (cL (vE 1 [15,7,8,2,12] (r? (c2 vZ (c2 b3 di az) bw)) (gN 0) wH (vx (xp 3) (ax (c2 b3 bq (c2 wF bI aa)) (ax ag (ax ah (ax ay (ax aG (a1 bw))))))))))
 (a0 (vN 18 (c2 (cb δ) (c2 vZ (c2 wY (c2 b3 di az) bw) cq) av))
 (a0 (vN 19 (cL (vE 1 [15,7,8,2,5,6,12] (r? (c2 vZ (c2 wY (c2 b3 di az) kO) bw)) (gN 0) wH (vx z7 (ax (c2 b3 bP (c2 wF cq aa)) (ax ag (ax ah (ax ay (ax aG oh)))))))))
 (a0 (eg (cT (cV 18)) (vN 19 (cL (vO vP))) vG)
 (a0 (vN 20 (c2 b3 (cL (vO sD)) (c2 vZ (c2 b3 di gY) cB)))
 (wc (zT 10 (vQ sG)))))))))))
 (wW (Fm 10))))))))))
def F1:FS:=(a0 (vN 1 (cL (wx yS (ax (vx x9 (ax aa (a1 av))) (a1 (cC (.int 32)))))))
 (a0 (vN 2 (vx Da bU))
 (a0 (vN 3 (vx zR cw))
 (a0 (vN 4 (vx As cw))
 (a0 (vN 5 (cL (vE 1 [] (iL ay) (gN 0) (cT (c2 (cb δ) (c2 b3 aa bI) cH)) (c2 b3 aa av))))
 (a0 (vN 6 (vx zO (ax ay cE)))
 (a0 (vN 7 (cL (vE 1 [5,1] (r? (c1 w5 bq)) (gN 0) (cT (c2 (cb δ) (c2 vZ (c2 wY (c2 b3 ah (cC (.int 29))) (c2 b3 (cL (vO (ax az (ax cq (a1 (cC (.int 16))))))) aa)) cq) az)) (c2 b3 ag aa))))
 (a0 (vN 8 (vx Dg bU))
 (a0 (vN 9 (vx Au (ax (vx x9 (ax aa (a1 az))) (ax ay (ax bf (a1 bT))))))
 (vA (vQ (ax ay (ax aG (ax bP (ax (vx BA (ax ag oh)) (ax bT (a1 dq)))))))))))))))))
def Dh:=dr 1 10 F1
abbrev jB:=(ax (c2 b3 aa az) (a1 (c2 b3 aa bI)))
def Av(g:List D->Option D):FS:=(a0 (eg (cT (c2 (cb δ) (c2 b3 aa av) gZ)) (vA (wu 3 (λa=>Ef (a++[])) jB)) vG)
 (a0 (eg (cT (c2 (cb δ) (c2 b3 aa av) (cS "has"))) (vA (wu 4 (λa=>CK (a++[])) hG)) vG)
 (a0 (eg (cT (c2 (cb δ) (c2 b3 aa av) (cS "seen"))) (vA (wu 5 (λa=>Ho (a++[])) hG)) vG)
 (a0 (eg (cT (c2 (cb δ) (c2 b3 aa av) (cS "marked"))) (vA (wu 6 (λa=>xA (a++[])) jB)) vG)
 (a0 (eg (cT (c2 (cb δ) (c2 b3 aa av) (cS "kind"))) (vA (wu 7 (λa=>yc (a++[])) jB)) vG)
 (a0 (eg (cT (c2 (cb δ) (c2 b3 aa av) (cS "word"))) (vA (wu 8 (λa=>DR (a++[])) hG)) vG)
 (a0 (eg (cT (c2 (cb δ) (c2 b3 aa av) (cS "not"))) (vA (wu 9 (λa=>yh (a++[])) (a1 (vx g hG)))) vG)
 (a0 (eg (cT (c2 (cb δ) (c2 b3 aa av) (cS "both"))) (vA (wu 10 (λa=>Hr (a++[])) (ax (vx g hG) (a1 (vx g nX))))) vG)
 (vA (cNew 15))))))))))
def yj:Nat->List D->Option D
 |0=>dr 1 1 QY
 |n+1=>dr 1 1 (Av (yj n))
def DZ:=dr 1 1 (a0 (eg (cT (c2 (cb δ) (c2 b3 aa av) nT)) (vA (wu 11 (λa=>zh (a++[])) jB)) vG)
 (vA (wu 12 (λa=>zK (a++[])) jB)))
abbrev sH:=(wq (gN 2) (wq (gN 3) (wq (gN 4) (wq (gN 5) Bi))))
def Hv:FS:=(a0 (Fl aa (gT (wq (gN 1) sH) 5))
 (a0 (vN 6 (cL (vE 1 [] (iL ah) (gN 0) wH (vx (yj 3) bJ))))
 (a0 (eg (xm (cT bq)) (vA (wu 13 (λa=>yd (a++[(D.X δ)])) (ax ag (ax bf (ax (cL (vE 1 [] (iL ay) (gN 0) wH (vx DZ bJ))) cE))))) vG)
 (vA (wu 13 (λa=>yd (a++[])) (ax ag (ax bf (ax (cL (vO vP)) oo))))))))
def D1:=dr 1 7 Hv
abbrev sL:=(wq (gN 10) (wq (gN 11) Bi))
def F2:FS:=(a0 (Fl aa (gT (wq (gN 1) (wq (gN 2) (wq (gN 3) (wq (gN 4) (wq (gN 5) (wq (gN 6) Bi)))))) 6))
 (a0 (xO 7 (vO vP))
 (a0 (xS (iL ag) (gT (wq (gN 8) (wq (gN 9) sL)) 4) (eg (cT (c2 zF dt aN)) (wc (zT 7 (wu 0 (λa=>An (a++[D.U])) sZ))) (wc (zT 7 (wu 0 (λa=>An (a++[])) (ax bT (ax dq (ax dW (a1 dt)))))))))
 (a0 (vN 12 (cL (vE 3 [] (iL ah) (gT (wq (gN 0) (wq (gN 1) (wq (gN 2) Bi))) 3) wH (wu 1 (λa=>Hn (a++[])) hJ))))
 (a0 (vN 13 (cL (vE 4 [] (iL bq) (gT (wq (gN 0) (wq (gN 1) (wq (gN 2) (wq (gN 3) Bi)))) 4) wH (wu 2 (λa=>yb (a++[])) om))))
 (vA (wu 14 (λa=>Aq (a++[])) (ax (nj 7) (ax di (ax (cL (zf ay)) (ax (cL (zf aG)) (ax (cV 13) (a1 (cL (vE 1 [] (iL bf) (gN 0) wH (vx D1 bJ))))))))))))))))
def Di:=dr 1 14 F2
def EA:FS:=(a0 (vN 4 (vx xT bJ))
 (a0 (vN 5 (cL (wx E2 bJ)))
 (a0 (xS (iR2 ah (c2 wF ah ay)) (gN 6) (vN 4 (c2 b3 (vx Lj (ax aa (ax aG (a1 (c2 b3 bq (c2 vZ (vx x9 (ax ag (a1 bf))) (c1 w5 bq))))))) az)))
 (vA aG))))
def y3:=dr 4 7 EA
def zB:=dr 2 5 (a0 (vN 2 (c2 II (cS " ") (c2 vZ ag bw)))
 (a0 (xS (r? (c1 w5 aa)) (gN 3) (a0 (vN 4 (c2 b3 (cL (vO (ax dj (ax (cS "the ") (ax dj (ax (cS "a  ") (ax (cS "the a ") (ax dj (a1 dj))))))))) (c2 vZ (c2 wY ag (c2 wF cB (c2 ym bw ay))) dh)))
 (vN 2 (c2 DH (c2 DH (c2 DH ah aG) (c2 b3 aa ay)) (c2 II (cS " ") (c2 wF az (c2 vZ (c2 wY ag (c2 wF dh (c2 ym cB ay))) bI)))))))
 (vA (c2 DH ah (c2 b3 (cL (vO (ax dj (ax (cS "the") (a1 (cS " a ")))))) (c2 vZ (c2 wY ag bw) bw))))))
def ya:=dr 3 4 (a0 (eg (cT (c2 (cb δ) aa iP)) (vA (c2 b3 (cL (vO (ax (cL (vO vP)) dX))) (c1 WV (c2 (cb γ) ah (vQ vP))))) vG)
 (a0 (eg (cT (c2 (cb δ) aa fI)) (a0 (vN 3 (cL (vE 1 [1,2] (r? (c1 w5 ah)) (gN 0) (cT (c2 (cb δ) (c2 b3 ah aa) ag)) aa)))
 (a0 (eg (xG (cT (c2 (cb δ) ay (cL (vO vP)))) (xG (cT (c2 (cb δ) (c2 b3 ay av) av)) (cT (c2 (cb δ) (c2 b3 ay av) (c2 Ep (c1 w5 ah) az))))) (vA aN) vG)
 (wW (vO (ax (Lf ah oNo (o3 (c2 b3 ay av))) (a1 (Lf ah (o3 (c2 wF (c2 b3 ay av) az)) oNo))))))) vG)
 (a0 (eg (xG (cT (c2 (cb δ) ah (vQ vP))) (xI (cT (c2 (cb δ) aa c5)) (cT (c2 DG (c1 w5 ah) az)))) (vA aN) vG)
 (wW (vO ck)))))
abbrev sE:=(ax (vQ (ax (cS "none") (a1 (cV 10)))) (a1 (vQ (ax (cS "which") (ax (cV 10) (a1 (zp (cL (CC (nj 11))))))))))
def D2:=dr 3 13 (a0 (eg (cT (c2 (cb δ) ah (vQ vP))) (vA (vQ (ax (cS "noverb") (a1 dj)))) vG)
 (a0 (vN 3 (cL (vE 1 [2] (iL (cL (xt (c2 b3 aa cq) (cL (wx xU vP))))) (gN 0) (xG (cT (c2 (cb δ) (c2 b3 ag av) (c2 b3 aa av))) (cT (c2 (j0 δ) (c2 b3 ag av) (c2 b3 aa az)))) aa)))
 (a0 (eg (cT (c2 (cb δ) ay (cL (vO vP)))) (vA (vQ (ax (cS "noverb") (a1 (c2 b3 ah av))))) vG)
 (a0 (Fl (c2 b3 ay av) (gT (wq (gN 4) (wq (gN 5) (wq (gN 6) (wq (gN 7) Bi)))) 4))
 (a0 (vN 8 (vx ya (ax bf (ax bP (a1 (K9 ah (Z 1) O))))))
 (a0 (eg (cT (c2 zF bT aN)) (vA (vQ (ax (cS "noform") cE))) vG)
 (a0 (eg (cT (c2 (cb δ) bf c5)) (a0 (eg (cT (c2 p' (cL (vE 1 [2] (iL (c2 b3 aa bw)) (gN 0) (cT (c2 (cb δ) (c2 b3 aa az) (c2 b3 ag az))) aa)) (cL (vO vP)))) (vA (vQ (ax (cS "noway") (a1 (c2 b3 ah az))))) vG)
 (vA (vQ (ax kM (a1 (vQ (ax aG (ax (c2 b3 ah az) dX)))))))) vG)
 (a0 (xO 9 (vO vP))
 (a0 (xS (iL bT) (gN 10) (a0 (xO 11 (vO vP))
 (a0 (xS (iL (c2 b3 aa av)) (gN 12) (eg (xI (cT (c2 (j0 δ) (c2 b3 di av) ag)) (cT (c2 p' (cL (vE 1 [12] (iT dW) (gN 0) (cT (c2 (j0 γ) aa (c2 b3 ag az))) aa)) (cL (vO vP))))) (wc (zT 11 (c2 b3 di av))) vG))
 (a0 (eg (G4 (cT (c2 (cb γ) (c1 w5 dt) az))) (vA (c2 b3 (cL (vO sE)) (KU (c1 WV (c2 (cb γ) dt (cL (vO vP))))))) vG)
 (wc (zT 9 (KU (c2 b3 dt av))))))))
 (vA (vQ (ax kM (a1 (Ft (vQ cE) (zp (cL (Xn (cL (xt (nj 9) (cL (vO iQ)))) O (Z 2))))))))))))))))))
def BC:=dr 1 13 (a0 (xO 1 (vO (ax (cS "undo") (ax (cS "restart") (ax (cS "zzz") (ax (cS "taker") (ax (cS "in") (ax (cS "to") (ax (cS "with") (ax jz fJ))))))))))
 (a0 (xS (iL (cL (xt (c2 b3 aa cq) (cL (wx xU vP))))) (gT sH 4) (xO 1 (xt (cL (xt (nj 1) (cL (vO ck)))) (cL (zf ay)))))
 (a0 (xS (iL (c2 b3 aa bw)) (gT (wq (gN 6) sJ) 4) (wc (zT 1 bP)))
 (a0 (xS (iL (c2 b3 aa av)) (gT (wq (gN 2) (wq (gN 10) (wq (gN 11) (wq (gN 12) Bi)))) 4) (xO 1 (xt (nj 1) (cL (zf dW)))))
 (wW (Fm 1))))))
abbrev sY:=(ax bq (a1 (c2 b3 ah kH)))
def Aw:=dr 2 6 (a0 (vN 2 (cL (wx yS (ax ag (a1 (cC (.int 11)))))))
 (a0 (vN 3 (vx BC bJ))
 (a0 (vN 4 (cL (xt (cL (vO (ax jx (ax f6 (ax (cS "drop") (a1 (cS "go"))))))) (cL (vE 1 [] (iL (c2 b3 aa cq)) (gN 0) wH (c2 b3 aa av))))))
 (a0 (vN 5 (cL (vE 1 [3] (iL (cL (Dy ah (o3 az) (o3 (c2 wF az (c2 vZ (c2 b3 ah av) dS)))))) (gN 0) wH (c2 b3 ag (c2 vZ aa (c1 w5 ag))))))
 (a0 (eg (cT (c2 DG (c2 vZ (c2 wY (c2 b3 ah av) dS) bw) av)) (vN 5 (cL (xt (cL (vO (a1 (c2 b3 aG (c2 vZ (c2 b3 ah jy) (c1 w5 aG)))))) (cL (Xn bq O (Z 6)))))) vG)
 (vA (vQ sY)))))))
abbrev sI:=(wq (gN 3) (wq (gN 4) (wq (gN 6) (wq (gN 8) Bi))))
abbrev n4:=(ax aG (ax (c2 b3 bf dq) (a1 di)))
abbrev n6:=(ax az (ax bI (a1 bw)))
def PB:FS:=(a0 (xO 1 (vO vP))
 (a0 (xS (r? bI) (gN 2) (a0 (vN 3 (vx Dh (a1 (cL (Dy aa (o3 (c2 ym bI ah)) (o3 (c2 wF (c2 ym bI ah) bI)))))))
 (a0 (vN 4 (vx Di f9))
 (a0 (vN 5 (vx xT cE))
 (a0 (vN 6 (cL (vO (ax bq (ax (vx y3 (ax aG (ax aa (ax (c2 wF cq ah) (a1 bw))))) (a1 (vx y3 (ax aG (ax aa (ax (c2 wF dh ah) (a1 cB)))))))))))
 (wc (zT 1 (vQ (ax ay (ax aG (ax bf (a1 (cL (vE 1 [4] (iL bf) (gN 0) wH (cL (wx A9 du))))))))))))))))
 (a0 (vN 7 (cL (Xn (cL (xt (cL (Xn aa (Z 4) (Z 44))) (cL (vO n6)))) O (Z 40))))
 (a0 (xS (r? (c1 w5 bP)) (gN 2) (a0 (Fl (c2 b3 (nj 1) (c2 vZ ah bI)) (gT sI 4))
 (a0 (vN 9 (c2 vZ (c2 wY ah bI) bw))
 (a0 (Fl (vx Aw (ax ay (a1 (c2 b3 bP ah)))) (gT sL 2))
 (a0 (vN 12 (vx zB (ax dW (a1 dt))))
 (a0 (vN 13 (vx D2 (ax ay (ax (c2 b3 bT dq) (a1 (zp dW))))))
 (eg (xG (cT (c2 (cb γ) (vx Ja n4) (cV 13))) (cT (c2 (cb γ) (vx Ja n4) (cV 13)))) (vA cj) vG)))))))
 (a0 (xS (iL (nj 1)) (gT sI 4) (eg (xG (cT (c2 (cb γ) (cL (vE 1 [4] (iL bf) (gN 0) wH (cL (wx A9 du)))) bT)) (cT (c2 (cb γ) (vx xT cE) (c2 b3 bf av)))) (vA cj) vG))
 (vA dg))))))
def YL:=dr 1 14 PB
section
variable{α:Type}
def yk(h:e ρ=Z (.X γ,ρ1)):wc (vx vK (ax e (ax (cC m) vP))) ρ=Z (.nx ρ1):=xP (vt (vv h U) U)
def xq(d h:α->L4.D)(l:List α)(f:s ρ=Z (l.map d,ρ1))(e:l.length<=1000)(st:∀a∈l,∃b c,g (d a) (HD k d3 ρ1)=Z b/\fe b=Z (h a,c)/\zG d3 (c.drop k) ρ1=Z ρ1):
  vE k d3 s g wH fe ρ=Z (l.map h,ρ1):=(Pe f (by rw[ae];exact e)).t (Xk d h l st)
def xx(e h:α->L4.D)(p:α->Bool)(l:List α)(i:s ρ=Z (l.map e,ρ1))(f:l.length<=1000)
  (st:∀a∈l,∃c b,g (e a) (HD k d3 ρ1)=Z c/\ft c=Z (p a,b)/\(p a=γ->∃d,fe b=Z (h a,d)/\zG d3 (d.drop k) ρ1=Z ρ1)/\(p a=δ->zG d3 (b.drop k) ρ1=Z ρ1)):
  vE k d3 s g ft fe ρ=Z ((l.filter p).map h,ρ1):=(Pe i (by rw[ae];exact f)).t (IP e p h l st)
def zC(d:α->L4.D)(l:List α)(h:s ρ=Z (l.map d,ρ1))(f:l.length<=1000)(st:∀a∈l,∃b c,g (d a) (HD k d3 ρ1)=Z b/\e b=Z (.X γ,c)/\zG d3 (c.drop k) ρ1=Z ρ1):
  c1 zX (cL (vE k d3 s g wH e)) ρ=Z (.X γ,ρ1):=
 wt (wj (xq d (λ_=>.X γ) l h f st)) ((K5 l λ_=>γ).t (by rw[aH.2 λ_ _=>U]))
def Ur(e:α->L4.D)(l:List α)(i:s ρ=Z (l.map e,b))(h:l.length<=1000)(st:∀a∈l,∃c d,g (e a) (HD k d3 b)=Z c/\f c=Z (.X δ,d)/\zG d3 (d.drop k) b=Z b):
  c1 HE (cL (vE k d3 s g wH f)) ρ=Z (.X δ,b):=
 wt (wj (xq e (λ_=>.X δ) l i h st)) ((Pp l λ_=>δ).t (by rw[p6.2 λ_ _=>bH]))
end
inductive Kd where
 |room|you|plain|fixed|box|lamp
deriving DecidableEq
def Kd.s:Kd->Str
 |.room=>"room" |.you=>"you" |.plain=>"plain" |.fixed=>"fixed" |.box=>"box" |.lamp=>"lamp"
def Kd.pl:Kd->Bool
 |.room=>δ|.you=>δ|_=>γ
def Kd.hd:Kd->Bool
 |.room=>γ|.you=>γ|.box=>γ|_=>δ
def Kd.mk:Kd->Bool
 |.box=>γ|.lamp=>γ|_=>δ
structure Th where
 n:Str
 w:aB
 k:Kd
 s:Option Str
def oS:Option Str->L4.D
 |none=>.U
 |some x=>.str x
def ey(t:Th):L4.D:=.obj 0 ["name", "words", "kind", "start"] [.str t.n,.a7 (t.w.map D.str),.str t.k.s,oS t.s]
def BP(t:Th):vF vY "name" (ey t)=Z (.str t.n):=rfl
def Lk(t:Th):vF xY "words" (ey t)=Z (.a7 (t.w.map D.str)):=rfl
def BQ(t:Th):vF wz "kind" (ey t)=Z (.str t.k.s):=rfl
def HR(t:Th):vF xi "start" (ey t)=Z (oS t.s):=rfl
def F3(a b:Kd):cb δ (.str a.s) (.str b.s)=Z (.X (decide (a=b))):=by cases a<;>cases b<;>kernel_rfl
set_option r "Ll Cb hd;PF Cc mk;F4 AX pl" in def ϑ0(t:Th):ϑ1 [ey t]=Z (.X t.k.ϑ2):=by obtain⟨n,w,k,s⟩:=t;cases k<;>kernel_rfl
def Xw(t:Th):wK [.str t.k.s,FK]=Z (.X γ):=by obtain⟨n,w,k,s⟩:=t;cases k<;>kernel_rfl
abbrev TD(T:List Th):L4.D:=.a3 (T.map ey)
def C?(T:List Th)(a:T.length<=1000)(k:Kd):CL [TD T,.str k.s]=Z (.int (T.filter λt=>decide (t.k=k)).length):=by refine vJ (ρ:=[.I (TD T),.I (.str k.s)]) U ?_;refine vS (wt (wj (xx ey ey (λt=>decide (t.k=k)) T U a λt h=>#v[[.I (ey t),.I (.str k.s)],[.I (ey t),.I (.str k.s)],U,we (vw (wt U (BQ t)) U (F3 t.k k)),λh=>#v[_,U,U],λh=>U])) ?_);show Z (D.int _)=_;rw[ae]
def BR(T:List Th)(a:T.length<=1000):zv [TD T]=Z ((T.filter λt=>t.k.pl).map ey):=by refine Ab (ρ:=[.I (TD T)]) U ?_;exact xF (xx ey ey (λt=>t.k.pl) T U a λt s=>#v[[.I (ey t)],[.I (ey t)],U,we (wb U U U U (F4 t)),λs=>#v[_,U,U],λs=>U])
def F5(h:a ρ=Z (.int x,ρ))(i:b ρ=Z (.int y,ρ))(j:c ρ=Z (.int z,d))(l:x<=y)(m:y<=z):yU zW zW a b c ρ=Z (.X γ,d):=by
 unfold yU;rw[h];simp only[i];have e:zW (.int x) (.int y)=Z (.X γ):=by show Z (D.X (decide (x<=y)))=_;rw[aS l]
 have f:zW (.int y) (.int z)=Z (.X γ):=by show Z (D.X (decide (y<=z)))=_;rw[aS m]
 simp only[e,j,f]
def PH(c:a ρ=Z (.int x,ρ))(d:b ρ=Z (.int y,ρ))(e:x<=y):c2 zW a b ρ=Z (.X γ,ρ):=vw c d (by
 show Z (D.X (decide (x<=y)))=_;rw[aS e])
def HG(T:List Th)(a:T.length<=1000)(d:1<=(T.filter λt=>decide (t.k=.room)).length)(e:(T.filter λt=>decide (t.k=.room)).length<=5)(c:(T.filter λt=>decide (t.k=.you)).length=1)(f:(T.filter λt=>t.k.pl).length<=7):
  AZ [TD T]=Z .U:=by
 let b:bc:=[.I (TD T),.I (.X γ)];refine BE (ρ:=b) U ?_;unfold AY;rw[vz (show _=Z (A5.nx b) from(wV ((vR U).t (zC ey T U a λt s=>#v[_,_,U,U,U]))).t U)];rw[vz (yk U)];rw[vz (yk (zC ey T U a λt s=>#v[[.I (ey t)],[.I (ey t)],U,vt (vv (wt U (BQ t)) U) (Xw t),U]))];rw[vz (yk (F5 U (vt U (C? T a .room)) U (by omega) (by omega)))];rw[vz (yk (vw (vt U (C? T a .you)) U (by rw[c];rfl)))];refine yk (PH (x:=(T.filter λt=>t.k.pl).length) (wt (wj (vt U (BR T a))) ?_) U (by omega));show Z (D.int _)=_;rw[ae]
structure Mk where
 n:Str
 st:Int
 mo:Int
def D?(m:Mk):L4.D:=.obj 1 ["name", "start", "most"] [.str m.n,.int m.st,.int m.mo]
def Mk.ok(m:Mk):Prop:=1<=m.mo/\m.mo<=3/\0<=m.st/\m.st<=m.mo
abbrev MD(M:List Mk):L4.D:=.a3 (M.map D?)
def Lm(m:Mk):vF vY "name" (D? m)=Z (.str m.n):=rfl
def Oq(m:Mk)(h:m.ok):GO [D? m]=Z (.X γ):=by obtain⟨a,b,c,d⟩:=h;refine vJ (ρ:=[.I (D? m)]) U ?_;unfold GN;rw[vz (show _=Z (A5.nx [.I (D? m)]) from U)];exact vS ((vR (F5 U U U a b)).t (F5 U U U c d))
def Jb(M:List Mk)(d:M.length<=4)(h:∀m∈M,m.ok):BJ [MD M]=Z .U:=by
 let a:bc:=[.I (MD M),.I (.X γ)];refine BE (ρ:=a) U ?_;unfold BI;have b:wN [MD M,CG]=Z (.X γ):=by refine vJ (ρ:=[.I (MD M),.I (.int 4)]) U ?_;refine vS ((vR U).t (PH (x:=M.length) ?_ U (by omega)));refine wt U ?_;show Z (D.int _)=_;rw[ae]
 rw[vz (show _=Z (A5.nx a) from(wV ((vR (vt U b)).t (zC D? M U (by omega) λm c=>#v[[.I (D? m)],[.I (D? m)],U,vt U (Oq m (h m c)),U]))).t U)];exact yk U
def smL:aB:=["b", "ba", "bab", "babe", "c", "cab", "not", "take", "lit", "lamp", "x", "xx", "open", "both", "zz", "hall", "seen"]
def ahL:aB:=["", "", "q", "ek"]
def nmA(a:Str):aB:=smL.map λx=>a++x
def τ:aB:=nmA "" ++ nmA "q" ++ nmA "ek"
def Nm(x:Str):Prop:=x∈τ
def isT:Option L4.D->Bool
 |some (.X b)=>b
 |_=>δ
def Dj(h:isT o=γ):o=Z (.X γ):=by
 unfold isT at h;split at h
 .rw[h]
 .cases h
def isF:Option L4.D->Bool
 |some (.X b)=>!b
 |_=>δ
def Us(h:isF o=γ):o=Z (.X δ):=by
 unfold isF at h;split at h
 .rw[dH]at h;rw[h]
 .cases h
def Os(h:Nm x):zg [.str x]=Z (.X γ):=Dj (aH.1 (show (τ.all λx=>isT (zg [.str x]))=γ by kernel_rfl) x h)
def E4{l:aB}(h:l.Nodup)(a:l.length<=1000):xQ [.a3 (l.map D.str)]=Z (.X γ):=by
 refine vJ (ρ:=[.I (.a3 (l.map D.str))]) U ?_;refine vS (vw (y:=.int l.length) (wt U (Xb (Hh h a))) (wt U ?_) ?_)
 .show Z (D.int _)=_;rw[ae]
 .rw[xW];simp
def Ot{l:aB}(h:l.Nodup)(a:l.length<=1000):xQ [.a7 (l.map D.str)]=Z (.X γ):=by
 refine vJ (ρ:=[.I (.a7 (l.map D.str))]) U ?_;refine vS (vw (y:=.int l.length) (wt U (Hh h a)) (wt U ?_) ?_)
 .show Z (D.int _)=_;rw[ae]
 .rw[xW];simp
def Jc(T:List Th)(M:List Mk)(hT:T.length<=400)(hM:M.length<=400)(h:∀x∈T.map Th.n++M.map Mk.n,Nm x)(l:(T.map Th.n++M.map Mk.n).Nodup):BK [TD T,MD M]=Z .U:=by
 have c:(T.map Th.n++M.map Mk.n).length<=1000:=by rw[aA,ae,ae];omega
 let a:bc:=[.I (TD T),.I (MD M),.un];let b:bc:=[.I (TD T),.I (MD M),.I (.a3 ((T.map Th.n++M.map Mk.n).map D.str))];refine BE (ρ:=b) U ?_;have d:vE 1 [] (iL aa) (gN 0) wH (c1 (vF vY "name") aa) a=Z (T.map λt=>D.str t.n,a):=xq ey (λt=>D.str t.n) T U (by omega) λt s=>#v[_,_,U,wt U (BP t),U];have e:vE 1 [] (iL ag) (gN 0) wH (c1 (vF vY "name") aa) a=Z (M.map λt=>D.str t.n,a):=xq D? (λt=>D.str t.n) M U (by omega) λt s=>#v[_,_,U,wt U (Lm t),U];have f:=wV (i:=2) (wj (xw (wj d) (wj e) (by rw[ae,ae];omega)));refine(vz (ρ':=b) (f.t (by
  have:(T.map λt=>D.str t.n)++(M.map λt=>D.str t.n)=(T.map Th.n++M.map Mk.n).map D.str:=by rw[aX,aY,aY];rfl
  rw[this];rfl))).t ?_
 rw[vz (yk (zC D.str (T.map Th.n++M.map Mk.n) U c λx j=>#v[_,_,U,vt U (Os (h x j)),U]))];exact yk (vt U (E4 l c))
def gk(T:List Th):aB:=(T.filter λt=>decide (t.k=.room)).map Th.n
def n?(T:List Th):aB:=(T.filter λt=>t.k.hd).map Th.n
abbrev kI:=(cC (.str "room"))
def MY(T:List Th)(b:T.length<=1000)(a:cV i ρ=Z (TD T,ρ)):vE 1 [] (iL (cV i)) (gN 0) (cT (c2 (cb δ) (c1 (vF wz "kind") aa) kI)) (c1 (vF vY "name") aa) ρ=Z ((gk T).map D.str,ρ):=by
 have c:iL (cV i) ρ=Z (T.map ey,ρ):=by unfold iL;rw[a]
 have:=xx (k:=1) (d3:=[]) (g:=gN 0) (ft:=cT (c2 (cb δ) (c1 (vF wz "kind") aa) kI)) (fe:=c1 (vF vY "name") aa) ey (λt=>D.str t.n) (λt=>decide (t.k=.room)) T c b λt s=>#v[[.I (ey t)],[.I (ey t)],U,we (vw (wt U (BQ t)) U (F3 t.k .room)),λs=>#v[_,wt U (BP t),U],λs=>U]
 rw[this];unfold gk;rw[aY];rfl
def Ou(T:List Th)(b:T.length<=1000)(a:cV i ρ=Z (TD T,ρ)):vE 1 [] (iL (cV i)) (gN 0) (cT (vU wZ "can_hold" aa vP)) (c1 (vF vY "name") aa) ρ=Z ((n? T).map D.str,ρ):=by
 have c:iL (cV i) ρ=Z (T.map ey,ρ):=by unfold iL;rw[a]
 have:=xx (k:=1) (d3:=[]) (g:=gN 0) (ft:=cT (vU wZ "can_hold" aa vP)) (fe:=c1 (vF vY "name") aa) ey (λt=>D.str t.n) (λt=>t.k.hd) T c b λt s=>#v[[.I (ey t)],[.I (ey t)],U,we (wb U U U U (Ll t)),λs=>#v[_,wt U (BP t),U],λs=>U]
 rw[this];unfold n?;rw[aY];rfl
def AG{x:Str}{l:aB}(h:x∈l):wK [.str x,.a3 (l.map D.str)]=Z (.X γ):=by refine vJ (ρ:=[.I (.str x),.I (.a3 (l.map D.str))]) U ?_;refine vS ((vR U).t (vw U U ?_));rw[yX];simp[h]
def JM(a b:aB)(d:a.length<=1000)(f:a.Nodup)(h:∀x∈a,x∈b):CN [.a3 (a.map D.str),.a3 (b.map D.str)]=Z .U:=by let c:bc:=[.I (.a3 (a.map D.str)),.I (.a3 (b.map D.str)),.I (.X γ)];refine BE (ρ:=c) U ?_;unfold CM;rw[vz (show _=Z (A5.nx c) from(wV ((vR U).t ((vR (zC D.str a U d λx e=>#v[[.I (.str x),.I (.a3 (b.map D.str))],[.I (.str x),.I (.a3 (b.map D.str))],U,vt U (AG (h x e)),U])).t (vt U (E4 f d))))).t U)];exact yk U
def F6(T:List Th)(t:Th):Prop:=match t.k,t.s with
 |.room,O=>True
 |.room,Z _=>False
 |_,O=>False
 |.you,Z x=>x∈gk T
 |_,Z x=>x∈n? T
def MZ(T:List Th)(b:T.length<=1000)(t:Th)(h:F6 T t):ES [TD T,ey t]=Z (.X γ):=by
 refine vJ (ρ:=[.I (TD T),.I (ey t)]) U ?_;unfold ER;obtain⟨n,w,k,s⟩:=t;have els:∀k:Kd,k≠.room->k≠.you->∀x,x∈n? T->(a0 (eg (cT (c2 (cb δ) (c1 (vF wz "kind") ag) kI)) (vA (c2 zF (c1 (vF xi "start") ag) aN)) vG)
   (a0 (eg (cT (c2 (cb δ) (c1 (vF wz "kind") ag) (cC (.str "you")))) (vA (vx wK (ax (c1 (vF xi "start") ag) (ax (cL (vE 1 [] (iL aa) (gN 0) (cT (c2 (cb δ) (c1 (vF wz "kind") aa) kI)) (c1 (vF vY "name") aa))) vP)))) vG)
   (vA (vx wK (ax (c1 (vF xi "start") ag) (ax (cL (vE 1 [] (iL aa) (gN 0) (cT (vU wZ "can_hold" aa vP)) (c1 (vF vY "name") aa))) vP)))))) [.I (TD T),.I (ey #v[n,w,k,Z x])]=Z (.rt (.X γ) [.I (TD T),.I (ey #v[n,w,k,Z x])]):=λk c d x e=>by
  let a:bc:=[.I (TD T),.I (ey #v[n,w,k,Z x])];rw[vz (show _=Z (A5.nx a) from(w9 (we (vw (wt U (BQ _)) U ((F3 k .room).t (by rw[aP c]))))))];rw[vz (show _=Z (A5.nx a) from(w9 (we (vw (wt U (BQ _)) U ((F3 k .you).t (by rw[aP d]))))))];exact vS (vt (vv (wt U (HR _)) (vv (wj (Ou T b U)) U)) (AG e))
 cases k with
 |room=>
  cases s with
  |none=>rfl
  |some x=>exact h.elim
 |you=>
  cases s with
  |none=>exact h.elim
  |some x=>let a:bc:=[.I (TD T),.I (ey #v[n,w,.you,Z x])];rw[vz (show _=Z (A5.nx a) from U)];refine wg ((wB U).t ?_);exact vS (vt (vv (wt U (HR _)) (vv (wj (MY T b U)) U)) (AG h))
 |plain=>cases s with
  |none=>exact h.elim
  |some x=>exact els .plain (by decide) (by decide) x h
 |fixed=>cases s with
  |none=>exact h.elim
  |some x=>exact els .fixed (by decide) (by decide) x h
 |box=>cases s with
  |none=>exact h.elim
  |some x=>exact els .box (by decide) (by decide) x h
 |lamp=>cases s with
  |none=>exact h.elim
  |some x=>exact els .lamp (by decide) (by decide) x h
def kS(x:Str):d?:=Sum.inr x
def M0(f:fv a=Z (d,a))(h:a[i]?=Z (.dk b c))(j:fk a=Z (.str x,a))(p:kS x∉b)(o:b.length<1000)(l:c.length=b.length):
  zJ i fk fv a=Z (.nx (a.set i (.dk (b++[kS x]) (c++[d])))):=by
 have m:KY b (kS x)=δ:=by rw[jd];intro z;obtain⟨y,q,e⟩:=fN.1 z;exact p (by rw[<-bh e];exact q)
 unfold zJ;rw[f];simp only[h,j];rw[show B4 (.str x)=Z (kS x) from U];simp only;rw[aj o,aj l,m];rfl
section
variable{α:Type}
theorem Cg(m:α->L4.D)(kf:α->Str)(j:α->L4.D)(st:List d?->List L4.D->Sl->bc)
  (r:∀(a:α) (c:List d?) (d:List L4.D) (s:Sl),∃b,g (m a) (st c d s)=Z b/\fv b=Z (j a,b)/\b[i]?=Z (.dk c d)/\fk b=Z (.str (kf a),b)/\∀f e,∃h,b.set i (.dk f e)=st f e h):
  ∀(l:List α) (c:List d?) (d:List L4.D) (s:Sl),(c++l.map λa=>kS (kf a)).Nodup->c.length+l.length<=1000->d.length=c.length->
   ∃h,fu g (zJ i fk fv) (l.map m) (st c d s)=Z (.nx (st (c++l.map λa=>kS (kf a)) (d++l.map j) h))
 |[],c,d,s,_,_,_=>#v[s,by rw[eA,eA,eA,cf,cf];rfl]
 |a::l,c,d,s,o,C,q=>by
  obtain⟨b,t,u,w,x,y⟩:=r a c d s;obtain⟨F,A⟩:=y (c++[kS (kf a)]) (d++[j a]);rw[aU]at C;have p:((c++[kS (kf a)])++l.map λa=>kS (kf a)).Nodup:=by rw[b9];exact o
  have E:=λz=>by rw[cu]at o;exact o.2.2 _ z _ (by rw[aV];exact ba) U
  obtain⟨h,B⟩:=Cg m kf j st r l (c++[kS (kf a)]) (d++[j a]) F p (by rw[aA,cU];omega) (by rw[aA,aA,q,cU,cU]);refine#v[h,?_];rw[aV];unfold fu;rw[t];simp only[M0 u w x E (by omega) q,A];rw[B,aV,aV,b9,b9];rfl
end
def nK(T:List Th):List d?:=T.map λt=>kS t.n
def Ov(h:kS a=kS b):a=b:=kh h
def Ut{T:List Th}(h:(T.map Th.n).Nodup):(nK T).Nodup:=by have:=AA h;rw[aY]at this;exact this
def F7{T:List Th}(h:(T.map Th.n).Nodup)(a:Th->L4.D)(b:t∈T):xn (nK T) (T.map a) (kS t.n)=Z (a t):=by refine AQ (Ut h) ?_;unfold nK;rw[jm];exact b8 b
def Ow(T:List Th)(r:Str->Nat):Prop:=∀t∈T,r t.n<T.length/\∀p,t.s=Z p->r p<r t.n/\∃u∈T,u.n=p
def rm(T:List Th):L4.D:=.i0 (nK T) (T.map λt=>oS t.s)
def Uu(T:List Th)(J:T.length<=1000)(B:(T.map Th.n).Nodup)(r:Str->Nat)(w:Ow T r)(t:Th)(z:t∈T):Ac [rm T,.str t.n]=Z (.X γ):=by
 have loop:∀(m:Nat) (l:List L4.D),l.length=m->∀(a:Option Str) (s:Sl),(∀x,a=Z x->(∃u∈T,u.n=x)/\r x<m)->
   (∃b,fu (gN 3) (a0 (eg (cT (c2 zF ah aN)) (vA dg) vG) (vN 2 (c2 Er aa ah))) l [.I (rm T),.I (.str t.n),.I (oS a),s]=Z (.rt (.X γ) b))\/
   (∃j,fu (gN 3) (a0 (eg (cT (c2 zF ah aN)) (vA dg) vG) (vN 2 (c2 Er aa ah))) l [.I (rm T),.I (.str t.n),.I (oS a),s]=Z (.nx [.I (rm T),.I (.str t.n),.I .U,j])):=by
  intro m
  induction m with
  |zero=>
   intro l h a s f;cases l with
   |cons d l=>cases h
   |nil=>
    cases a with
    |none=>exact .inr #v[s,U]
    |some x=>exact aq (f x U).2 (qQ _)
  |succ m G=>
   intro l h a s f;cases l with
   |nil=>cases h
   |cons d l=>
    cases a with
    |none=>refine .inl #v[[.I (rm T),.I (.str t.n),.I .U,.I d],?_];unfold fu;rw[show gN 3 d [.I (rm T),.I (.str t.n),.I (oS O),s]=Z [.I (rm T),.I (.str t.n),.I .U,.I d] from U];rfl
    |some x=>
     obtain⟨⟨u,A,rfl⟩,i⟩:=f x U;have e:a0 (eg (cT (c2 zF ah aN)) (vA dg) vG) (vN 2 (c2 Er aa ah)) [.I (rm T),.I (.str t.n),.I (.str u.n),.I d]=Z (.nx [.I (rm T),.I (.str t.n),.I (oS u.s),.I d]):=by refine(vz U).t ?_;exact(wV (vw U U (F7 B (λt=>oS t.s) A))).t U
     have key:=G l (by simpa using h) u.s (.I d) λy F=>by obtain⟨C,c⟩:=w u A;obtain⟨I,E⟩:=c y F;exact#v[E,by omega]
     unfold fu;rw[show gN 3 d [.I (rm T),.I (.str t.n),.I (oS (Z u.n)),s]=Z [.I (rm T),.I (.str t.n),.I (.str u.n),.I d] from U];simp only[e];exact key
 obtain⟨C,c⟩:=w t z;have H:=loop T.length (Iw 0 T.length) (by unfold Iw;simp) t.s .un λx i=>#v[(c x i).2,by have:=(c x i).1;omega];have o:vN 2 (c2 Er aa ag) [.I (rm T),.I (.str t.n),.un,.un]=Z (.nx [.I (rm T),.I (.str t.n),.I (oS t.s),.un]):=(wV (vw U U (F7 B (λt=>oS t.s) z))).t U;have p:r? (c1 w5 aa) [.I (rm T),.I (.str t.n),.I (oS t.s),.un]=Z (Iw 0 T.length,[.I (rm T),.I (.str t.n),.I (oS t.s),.un]):=by unfold r?;rw[show c1 w5 aa [.I (rm T),.I (.str t.n),.I (oS t.s),.un]=Z (.int T.length,[.I (rm T),.I (.str t.n),.I (oS t.s),.un]) from wt U (by show Z (D.int _)=_;unfold nK;rw[ae])];simp only;rw[aj (by omega),gr]
 rcases H with ⟨b,q⟩|⟨j,q⟩
 .refine vJ (ρ:=b) U ?_;refine(vz o).t (wg ((yV p).t q))
 .refine vJ (ρ:=[.I (rm T),.I (.str t.n),.I .U,j]) U ?_;refine(vz o).t ((vz ((yV p).t q)))
def HI(T:List Th)(u:T.length<=900)(f:(T.map Th.n).Nodup)(r:Str->Nat)(l:Ow T r)(m:∀t∈T,F6 T t):A0 [TD T]=Z .U:=by
 obtain⟨b,j⟩:=Cg (g:=gN 2) (i:=1) (fk:=c1 (vF vY "name") ah) (fv:=c1 (vF xi "start") ah) ey Th.n (λt=>oS t.s) (λe c s=>[.I (TD T),.dk e c,s])
  (λt e c s=>#v[[.I (TD T),.dk e c,.I (ey t)],U,wt U (HR t),U,wt U (BP t),λo h=>#v[_,U]]) T [] [] .un (by rw[cD];exact Ut f) (by simp;omega) U
 refine BE (ρ:=[.I (TD T),.I (rm T),b]) U ?_;refine(vz (yk (zC ey T U (by omega) λt d=>#v[[.I (ey t),.I (TD T)],[.I (ey t),.I (TD T)],U,vt U (MZ T (by omega) t (m t d)),U]))).t ?_;refine(vz U).t ?_;refine(vz ((yV U).t j)).t ?_;have src:iD (nj 1) [.I (TD T),.dk ([]++T.map λa=>kS a.n) ([]++T.map λt=>oS t.s),b]=Z ((T.map λt=>D.str t.n),[.I (TD T),.I (rm T),b]):=by rw[cD,cD];unfold iD;rw[show nj 1 [.I (TD T),.dk (T.map λa=>kS a.n) (T.map λt=>oS t.s),b]=Z (rm T,[.I (TD T),.I (rm T),b]) from U];show (if (nK T).length=(T.map λt=>oS t.s).length then Z ((nK T).map keyV,_)else O)=_;unfold nK;rw[aj (by rw[ae,ae]),aY];rfl
 exact yk (zC (λt:Th=>D.str t.n) T src (by omega) λt d=>#v[[.I (.str t.n),.I (rm T)],[.I (.str t.n),.I (rm T)],U,vt U (Uu T (by omega) f r l t d),U])
def M3(l:List Th)(r:Th):Prop:=(r.k=.room/\r.s=O)\/(r.k=.you/\∃u∈l,r.s=Z u.n/\u.k=.room)\/(r.k.pl=γ/\∃u∈l,r.s=Z u.n/\u.k.hd=γ)
inductive Ord:List Th->Prop
 |nil:Ord []
 |snoc {l:List Th} {r:Th} (h:Ord l) (h':M3 l r):Ord (l++[r])
def M3.mono(h:M3 l r)(d:∀u∈l,u∈e):M3 e r:=by
 rcases h with h|⟨a,u,b,c⟩|⟨a,u,b,c⟩
 .exact .inl h
 .exact .inr (.inl #v[a,u,d u b,c])
 .exact .inr (.inr #v[a,u,d u b,c])
def Ord.all(h:Ord l):∀r∈l,M3 l r:=by
 induction h with
 |nil=>exact λr hr=>(cg hr).elim
 |snoc h b c=>
  intro r hr;rcases aZ.1 hr with hr|hr
  .exact(c r hr).mono λu a=>bC _ a
  .rw[bu]at hr;subst hr;exact b.mono λu a=>bC _ a
def M3.start(h:M3 l r)(a:r.s=Z p):∃u∈l,u.n=p:=by
 rcases h with ⟨_,h⟩|⟨_,u,b,c,_⟩|⟨_,u,b,c,_⟩
 .rw[h]at a;cases a
 .rw[c]at a;cases a;exact#v[u,b,U]
 .rw[c]at a;cases a;exact#v[u,b,U]
def Ord.rank(h:Ord l):(l.map Th.n).Nodup->∃c:Str->Nat,∀t∈l,c t.n<l.length/\∀p,t.s=Z p->c p<c t.n/\∃u∈l,u.n=p:=by
 induction h with
 |nil=>exact λ_=>#v[λ_=>0,λt a=>(cg a).elim]
 |@snoc l r h j q=>
  intro e;rw[aX,cu]at e;obtain⟨c,i⟩:=q e.1;have f:∀u∈l,u.n≠r.n:=λu b z=>e.2.2 _ (b8 b) _ (by simp) z;refine#v[λx=>if x=r.n then l.length else c x,λt a=>?_];rw[aA,cU];dsimp only;rcases aZ.1 a with a|a
  .obtain⟨w,m⟩:=i t a;rw[ak (f t a)];refine#v[by omega,λp d=>?_];obtain⟨o,u,b,rfl⟩:=m p d;rw[ak (f u b)];exact#v[o,u,bC _ b,U]
  .rw[bu]at a;subst a;rw[aj U];refine#v[by omega,λp d=>?_];obtain⟨u,b,rfl⟩:=j.start d;rw[ak (f u b)];exact#v[(i u b).1,u,bC _ b,U]
def Uv{a:List L4.D}(k:Nat)(h:k<=a.length):fb a O (Z (k:Int))=a.take k:=by unfold fb;rw[HT.LY,HT.HK,gA h,List.drop_zero,Nat.sub_zero]
def acA{a:List L4.D}(k:Nat)(h:k<=a.length):fb a (Z (k:Int)) O=a.drop k:=by unfold fb;rw[HT.LY,HT.HK,gA h,ic (by rw[c8];omega)]
def PJ(u t:Th):Prop:=AC [.a7 (u.w.map D.str),.a7 (t.w.map D.str)]=Z (.X δ)
def JN(P:List Th)(d:P.length<=900)(t:Th)(f:∀u∈P,u.n≠t.n->PJ u t):Ad [TD P,ey t]=Z (.X γ):=by
 let b:=P.filter λu=>!decide (u.n=t.n);let a:bc:=[.I (TD P),.I (ey t),.I (TD b)];have hO:b.length<=900:=bz (cy _ _) d;refine vJ (ρ:=a) U ?_;refine(vz (ρ':=a) ((wV (wj (xx ey ey (λu=>!decide (u.n=t.n)) P U (by omega) λu s=>#v[[.I (ey u),.I (ey t)],[.I (ey u),.I (ey t)],U,we (vw (wt U (BP u)) (wt U (BP t)) (xk γ u.n t.n)),λs=>#v[_,U,U],λs=>U]))).t U)).t ?_;have e:c1 HE (cL (vE 1 [1] (iL ah) (gN 0) wH (vx AC (ax (c1 (vF xY "words") aa) (ax (c1 (vF xY "words") ag) vP))))) a=Z (.X δ,a):=
  Ur ey b U (by omega) λu c=>#v[[.I (ey u),.I (ey t)],[.I (ey u),.I (ey t)],U,vt (vv (wt U (Lk u)) (vv (wt U (Lk t)) U)) (f u (aQ.1 c).1 (by simpa using (aQ.1 c).2)),U]
 refine vS ?_;unfold HC;rw[e];rfl
def Jd(T:List Th)(e:T.length<=900)(h:∀t∈T,zZ [.a7 (t.w.map D.str)]=Z (.X γ))(d:∀t∈T,∀u∈T,t.k.pl=γ->u.k.pl=γ->u.n≠t.n->PJ u t):x3 [TD T]=Z .U:=by let P:=T.filter λt=>t.k.pl;have hP:P.length<=900:=bz (cy _ _) e;have pP:∀t∈P,t∈T/\t.k.pl=γ:=λt a=>aQ.1 a;let c:bc:=[.I (TD T),.I (TD P)];refine BE (ρ:=c) U ?_;refine(vz (yk (zC ey T U (by omega) λt a=>#v[[.I (ey t)],[.I (ey t)],U,vt (vv (wt U (Lk t)) U) (h t a),U]))).t ?_;refine(vz ((wV (wj (vt U (BR T (by omega))))))).t ?_;exact yk (zC ey P U (by omega) λt a=>#v[[.I (ey t),.I (TD P)],[.I (ey t),.I (TD P)],U,vt U (JN P hP t λu b f=>d t (pP t a).1 u (pP u b).1 (pP t a).2 (pP u b).2 f),U])
def Ln(h:e ρ=Z (.X b,a)):HC e ρ=Z (.X !b,a):=by unfold HC;rw[h]
def Je{l m:aB}(hd:d=.a3 (m.map D.str)\/d=.a7 (m.map D.str))(c:l.length<=900)(h:∀x∈l,x∉m):z4 [.a3 (l.map D.str),d]=Z (.X γ):=by
 let a:bc:=[.I (.a3 (l.map D.str)),.I d];refine vJ (ρ:=a) U ?_;have e:c1 HE (cL (vE 1 [1] (iL aa) (gN 0) wH (c2 (j0 δ) aa ag))) a=Z (.X δ,a):=Ur D.str l U (by omega) λx b=>#v[[.I (.str x),.I d],[.I (.str x),.I d],U,vw U U (by
  rcases hd with rfl|rfl
  .rw[yX];simp[h x b]
  .rw[AO];simp[h x b]),U]
 exact vS (Ln e)
structure Vb where
 n:Str
 o:aB
 f:Str
 j:Option Str
def k3(v:Vb):L4.D:=.obj 2 ["name", "others", "form", "joining"] [.str v.n,.a7 (v.o.map D.str),.str v.f,oS v.j]
def v6:List Vb:=[#v["give", ["hand", "g"],"two", Z "to"],#v["hum", [],"alone", O],#v["push", ["shove"],"one", O],#v["sail", ["s"],"way", O],#v["tie", [],"two", Z "with"],#v["l", ["look", "peer"],"one", O]]
def v9:List Vb:=[#v["take", [],"one", O],#v["drop", [],"one", O],#v["open", [],"one", O],#v["shut", [],"one", O],#v["light", [],"one", O],#v["douse", [],"one", O],#v["put", [],"two", Z "in"],#v["go", [],"way", O],#v["wait", [],"alone", O]]
abbrev VD(V:List Vb):L4.D:=.a3 (V.map k3)
def vB(m k:Nat):Bool:=m / 2 ^ k % 2==1
def vL(m:Nat):List Vb:=((aC 6).filter λk=>vB m k).map λk=>v6.getD k #v["", [],"", O]
def Uw:zx []=Z (v9.map k3):=by kernel_rfl
def Vb.ws(v:Vb):aB:=v.n::v.o
def vW:aB:=(v6++v9).flatMap Vb.ws
def υ:aB:=["north", "up", "in", "n", "upward"]
def bW:aB:="to" ::"with" ::υ
def v64{p:List Vb->Bool}(h:((aC 64).all λm=>p (vL m))=γ){m:Nat}(a:m<64):p (vL m)=γ:=aH.1 h m (bB.2 a)
def D3(h:v∈vL m):v∈v6:=by obtain⟨k,b,rfl⟩:=au.1 h;have a:=bB.1 (aQ.1 b).1;rw[bQ,aO a];exact fj a
def BS(m:Nat):(vL m).length<=6:=by unfold vL;rw[ae];exact bz (cy _ _) (by rw[bL];exact aI _)
def isN:Option L4.D->Bool
 |some .U=>γ
 |_=>δ
def acB(h:isN o=γ):o=Z .U:=by
 unfold isN at h;split at h
 .rfl
 .cases h
def Jf(a:m<64):zP [VD (vL m)]=Z .U:=acB (v64 (p:=λV=>isN (zP [VD V])) (by kernel_rfl) a)
def M4(a:m<64):((vL m++v9).flatMap Vb.ws).Nodup:=bh (v64 (p:=λV=>decide ((V++v9).flatMap Vb.ws).Nodup) (by kernel_rfl) a)
def vws{V:List Vb}(h:∀v∈V,v∈v6):∀x∈(V++v9).flatMap Vb.ws,x∈vW:=λx b=>by
 obtain⟨v,a,b⟩:=dB.1 b;refine dB.2 #v[v,?_,b];rcases aZ.1 a with a|a
 .exact bC _ (h v a)
 .exact bx _ a
structure Wy where
 r:Str
 w:Str
 g:Str
 m:Option Str
def l?(w:Wy):L4.D:=.a7 [.str w.r,.str w.w,.str w.g,oS w.m]
abbrev WD(W:List Wy):L4.D:=.a3 (W.map l?)
def tj(T:List Th)(M:List Mk):aB:=(T.filter λt=>t.k.mk).map Th.n++M.map Mk.n
structure M5(T:List Th)(M:List Mk)(w:Wy):Prop where
 hr:w.r∈gk T
 hw:w.w∈υ
 hg:w.g∈gk T
 hm:∀x,w.m=Z x->x∈tj T M
def PK(l:List L4.D)(n:Int)(h:(l.length:Int)<=n):wN [.a3 l,.int n]=Z (.X γ):=by
 have e:wN [.a3 l,.int n]=Z (.X (decide ((l.length:Int)<=n))):=by kernel_rfl
 rw[e,aS h]
def F8(c:e ρ=Z (.X δ,a)):D' e b ρ=b a:=by unfold D';rw[c]
def Lo(b:e ρ=Z (.X γ,a)):D' e c ρ=Z (.X γ,a):=by unfold D';rw[b]
def Rv(h:M5 T M w):I0 [l? w,.a3 ((gk T).map D.str),.a3 ((tj T M).map D.str)]=Z (.X γ):=by
 let R:L4.D:=.a3 ((gk T).map D.str);let K:L4.D:=.a3 ((tj T M).map D.str);let a:bc:=[.I (l? w),.I R,.I K,.un];let d:bc:=[.I (l? w),.I R,.I K,.I (.X γ)];refine vJ (ρ:=d) U ?_;refine(vz U).t ?_;have b:D' (c2 zF (c2 b3 aa bw) aN) (vx wK tK) a=Z (.X γ,a):=by
  obtain⟨r,x,g,m⟩:=w;cases m with
  |none=>rfl
  |some y=>exact(F8 U).t (vt U (AG (h.hm y U)))
 refine(vz ((wV b))).t (vS ?_);have c:=Dj (aH.1 (show (υ.all λx=>isT (yO [.str x]))=γ by kernel_rfl) w.w h.hw);exact(vR (vt U (AG h.hr))).t ((vR (vt U c)).t ((vR (vt U (AG h.hg))).t U))
theorem PL:∀W:List Wy,zH (W.map λw=>D.a7 [.str w.r,.str w.w])=Z (W.map λw=>[w.r,w.w])
 |[]=>rfl
 |w::W=>by rw[aV];unfold zH;rw[PL W];rfl
def JO{W:List Wy}(b:W.length<=8)(h:∀w∈W,M5 T M w)(d:(W.map λw=>[w.r,w.w]).Nodup):CO [WD W,.a3 ((gk T).map D.str),.a3 ((tj T M).map D.str)]=Z .U:=by
 let R:L4.D:=.a3 ((gk T).map D.str);let K:L4.D:=.a3 ((tj T M).map D.str);let e:bc:=[.I (WD W),.I R,.I K,.I (.X γ)];refine BE (ρ:=e) U ?_;refine(vz ((wV ((vR (vt U (PK _ _ (by rw[ae];omega)))).t (zC l? W U (by omega) λw c=>#v[[.I (l? w),.I R,.I K],[.I (l? w),.I R,.I K],U,vt U (Rv (h w c)),U]))))).t ?_;refine(vz (yk U)).t (yk (vt (vv (wj (xq l? (λw=>.a7 [.str w.r,.str w.w]) W U (by omega) λw s=>#v[[.I (l? w)],[.I (l? w)],U,U,U])) U) ?_));refine vJ U (vS (vw (x:=.int W.length) (y:=.int W.length) (wt U ?_) (wt U ?_) ?_))
 .have a:yz (W.map λw=>D.a7 [.str w.r,.str w.w])=O\/yz (W.map λw=>D.a7 [.str w.r,.str w.w])=Z (.int W.length):=by
   cases W with
   |nil=>exact .inr U
   |cons w W=>exact .inl U
  show (match yz (W.map λw:Wy=>D.a7 [.str w.r,.str w.w])with|some r=>Z r|none=>GH (W.map λw:Wy=>D.a7 [.str w.r,.str w.w]))=_;rcases a with a|a
  .rw[a];unfold GH;rw[PL];dsimp only;rw[aj #v[d,by rw[ae];exact b],ae]
  .rw[a]
 .show Z (D.int _)=_;rw[ae]
 .rw[xW];simp
def XC:aB:=["red", "re", "taken", "old", "openly"]
def T':aB:=["key", "keys", "bowl", "b", "nothing"]
def tlL:aB:=["", "q", "zu"]
def exL:aB:=["x", "dusty", "most"]
def wpL:aB:=exL++tlL.flatMap λt=>(XC++T').map λx=>x++t
theorem Jg:∀(P:List Th) (acc:aB) (s:Sl),acc.length+3 * P.length<=900->(∀t∈P,t.w.length<=3)->
  ∃j,fu (gN 4) (wc (Es 3 (c1 (vF xY "words") aG))) (P.map ey) [a,b,c,.Y (acc.map D.str),s,f,h,i]=Z (.nx [a,b,c,.Y ((acc++P.flatMap Th.w).map D.str),j,f,h,i])
 |[],acc,s,_,_=>#v[s,by simp;rfl]
 |t::P,acc,s,o,l=>by
  have q:=l t ba;rw[aU]at o;obtain⟨j,e⟩:=Jg P (acc++t.w) (.I (ey t)) (by rw[aA];omega) λu p=>l u (a9 _ p);refine#v[j,?_];rw[aV];unfold fu;have m:wc (Es 3 (c1 (vF xY "words") aG)) [a,b,c,.Y (acc.map D.str),.I (ey t),f,h,i]=Z (.nx [a,b,c,.Y ((acc++t.w).map D.str),.I (ey t),f,h,i]):=by refine(xP (d:=.U) ?_);show (if (acc.map D.str).length+(t.w.map D.str).length<=1000 then Z (D.U,[a,b,c,.Y (acc.map D.str++t.w.map D.str),.I (ey t),f,h,i])else O)=_;rw[aj (by rw[ae,ae];omega),aX]
  rw[show gN 4 (ey t) [a,b,c,.Y (acc.map D.str),s,f,h,i]=Z [a,b,c,.Y (acc.map D.str),.I (ey t),f,h,i] from U];simp only[m];rw[e,gv,b9]
theorem PM:∀(V:List Vb) (acc:aB) (s:Sl),acc.length+3 * V.length<=900->(∀v∈V,v.o.length<=2)->
  ∃l,fu (gN 6) (wc (Es 5 (Ft (vQ kW) (c1 (vF yH "others") bf)))) (V.map k3) [a,b,c,f,h,.Y (acc.map D.str),s,i]=Z (.nx [a,b,c,f,h,.Y ((acc++V.flatMap Vb.ws).map D.str),l,i])
 |[],acc,s,_,_=>#v[s,by simp;rfl]
 |v::V,acc,s,r,m=>by
  have w:=m v ba;rw[aU]at r;have x:v.ws.length<=3:=by unfold Vb.ws;rw[aU];omega
  obtain⟨l,e⟩:=PM V (acc++v.ws) (.I (k3 v)) (by rw[aA];omega) λu t=>m u (a9 _ t);refine#v[l,?_];rw[aV];unfold fu;let j:=[a,b,c,f,h,.Y (acc.map D.str),.I (k3 v),i];have p:Ft (vQ kW) (c1 (vF yH "others") bf) j=Z (.a7 (v.ws.map D.str),j):=by show (if ([]:List L4.D).length+(v.o.map D.str).length<=900 then Z (D.a7 (.str v.n::[]++v.o.map D.str),j)else O)=_;rw[aj (by rw[ae];simp only[dD];omega)];rfl
  have q:wc (Es 5 (Ft (vQ kW) (c1 (vF yH "others") bf))) j=Z (.nx [a,b,c,f,h,.Y ((acc++v.ws).map D.str),.I (k3 v),i]):=by refine xP (d:=.U) ?_;unfold Es;rw[p];show (if (acc.map D.str).length+(v.ws.map D.str).length<=1000 then Z (D.U,[a,b,c,f,h,.Y (acc.map D.str++v.ws.map D.str),.I (k3 v),i])else O)=_;rw[aj (by rw[ae,ae];omega),aX]
  rw[show gN 6 (k3 v) [a,b,c,f,h,.Y (acc.map D.str),s,i]=Z j from U];simp only[q];rw[e,gv,b9]
def jsN(V:List Vb):aB:=V.filterMap Vb.j
def v_o2{V:List Vb}(h:∀v∈V,v∈v6):∀v∈V++v9,v.o.length<=2:=λv b=>by
 have a:=aH.1 (show ((v6++v9).all λv=>decide (v.o.length<=2))=γ by kernel_rfl) v (by
  rcases aZ.1 b with b|b
  .exact bC _ (h v b)
  .exact bx _ b)
 exact bh a
def Ux(h:e c=Z (.a3 b,a)):iL e c=Z (b,a):=by unfold iL;rw[h]
def aeH(V:List Vb)(d:V.length<=900)(a:cV 2 ρ=Z (VD V,ρ)):vE 1 [] (iL ah) (gN 0) (cT (c2 yn (c1 (vF yG "joining") aa) aN)) (c1 (vF yG "joining") aa) ρ=Z ((jsN V).map D.str,ρ):=by
 have b:=Ux a;refine(xx k3 (λv=>oS v.j) (λv=>v.j.isSome) V b (by omega) λv s=>#v[[.I (k3 v)],[.I (k3 v)],U,?_,λs=>#v[[.I (k3 v)],U,U],λs=>U]).t ?_
 .obtain⟨n,o,f,j⟩:=v;cases j<;>rfl
 .congr 2;unfold jsN;clear b a d
  induction V with
  |nil=>rfl
  |cons v V c=>
   obtain⟨n,o,f,j⟩:=v;cases j with
   |none=>rw[ly (by simp),List.filterMap_cons_none U];exact c
   |some x=>rw[jK (by simp)];exact bE (D.str x::·) c
def Jh{T:List Th}{W:List Wy}(J:T.length<=200)(p:∀t∈T,t.k.pl=γ->t.w.length<=3/\∀x∈t.w,x∈wpL)(hW:W.length<=8)(X:∀w∈W,w.w∈υ)(E:m<64):zc [TD T,WD W,VD (vL m++v9)]=Z .U:=by
 let V:=vL m++v9;have v6m:∀v∈vL m,v∈v6:=λv f=>D3 f;have lV:V.length<=15:=by show (vL m++v9).length<=15;rw[aA];have:=BS m;show (vL m).length+9<=15;omega
 let P:=T.filter λt=>t.k.pl;have hP:P.length<=200:=bz (cy _ _) J;have hwP:∀t∈P,t.w.length<=3/\∀x∈t.w,x∈wpL:=λt i=>p t (aQ.1 i).1 (aQ.1 i).2;let A:Sl:=.I (TD T);let B:Sl:=.I (WD W);let C:Sl:=.I (VD V);obtain⟨l,G⟩:=Jg P [] .un (by simp;omega) λt i=>(hwP t i).1;let o:=P.flatMap Th.w;let c:=V.flatMap Vb.ws;let r:Sl:=.Y (o.map D.str);obtain⟨z,H⟩:=PM V [] .un (by simp;omega) (v_o2 v6m);let d:=jsN V++W.map Wy.w;let AT:Sl:=.I (.a3 (d.map D.str));have lU:c.length<=100:=by have h:=vws v6m;have I:=MO (M4 E) h;exact bz I (bG (by kernel_rfl))
 have lJ:(jsN V).length<=15:=bz (List.length_filterMap_le _ _) lV;have lB:d.length<=100:=by show (jsN V++W.map Wy.w).length<=100;rw[aA,ae];omega
 have bIn:∀x∈d,x∈bW:=λx b=>by
  rcases aZ.1 b with b|b
  .obtain⟨v,f,e⟩:=ja.1 b;have a:=aH.1 (show ((v6++v9).all λv=>match v.j with|some x=>decide (x∈bW)|none=>γ)=γ by kernel_rfl) v (by
    rcases aZ.1 f with f|f
    .exact bC _ (v6m v f)
    .exact bx _ f)
   rw[e]at a;exact bh a
  .obtain⟨w,p,rfl⟩:=au.1 b;exact(show ∀x∈υ,x∈bW by decide) _ (X w p)
 have oIn:∀x∈o,x∈wpL:=λx b=>by obtain⟨t,i,hxt⟩:=dB.1 b;exact(hwP t i).2 x hxt
 have uIn:=vws v6m;have Q:∀x∈vW++bW,x∉wpL:=by decide +kernel
 have R:∀x∈vW++bW,x∉(["the", "a", "undo", "restart"]:aB):=by decide +kernel
 have S:∀x∈bW,x∉vW:=by decide +kernel
 have F:∀x∈c++d,x∈vW++bW:=λx b=>by
  rcases aZ.1 b with b|b
  .exact bC _ (uIn x b)
  .exact bx _ (bIn x b)
 have lUB:(c++d).length<=900:=by rw[aA];omega
 let UL:L4.D:=.a3 (c.map D.str);refine BE (ρ:=[A,B,C,.I (.a3 (o.map D.str)),l,.I UL,z,AT]) U ?_;refine(vz U).t ?_;refine(vz ((yV (ρ1:=[A,B,C,.Y [],.un,.un,.un,.un]) ?_).t G)).t ?_
 .unfold iL;rw[wj (vt (ρ1:=[A,B,C,.Y [],.un,.un,.un,.un]) U (BR T (by omega)))]
 refine(vz U).t ?_;refine(vz ((yV U).t H)).t ?_;refine(vz (ρ':=[A,B,C,r,l,.Y (c.map D.str),z,AT]) ((wV (wj (xw (wj (aeH V (by omega) U)) (wj (xq l? (λw=>.str w.w) W U (by omega) λw s=>#v[[.I (l? w)],[.I (l? w)],U,U,U])) (by rw[ae,ae];omega)))).t ?_)).t ?_
 .show Z (A5.nx [A,B,C,r,l,.Y (c.map D.str),z,.I (.a3 ((jsN V).map D.str++W.map λw=>.str w.w))])=_;rw[show (jsN V).map D.str++(W.map λw=>D.str w.w)=d.map D.str by show _=(jsN V++W.map Wy.w).map D.str;rw[aX,aY];rfl]
 refine(vz (yk (vt (ds:=[UL]) U (E4 (M4 E) (by omega))))).t ?_;have y:∀(q:Sl),cL (xt (nj 5) bP) [A,B,C,q,l,.I UL,z,AT]=Z (.a3 ((c++d).map D.str),[A,B,C,q,l,.I UL,z,AT]):=λq=>(wj (xw U U (by rw[ae,ae];omega))).t (by rw[<-aX]);refine(vz (yk (vt (vv (y r) U) (Je (.inl U) lUB λx b M=>Q x (F x b) (oIn x M))))).t ?_;refine(vz (yk (vt (vv (y _) U) (Je (.inr U) lUB λx b=>R x (F x b))))).t ?_;exact yk (vt U (Je (.inl U) (by omega) λx b N=>S x (bIn x b) (uIn x N)))
def yN(T:List Th):Str:=((T.filter λt=>decide (t.k=.you)).map Th.n).headD ""
structure ea(T:List Th)(M:List Mk)(dk:aB)(W:List Wy):Prop where
 len:T.length<=13
 r1:1<=(T.filter λt=>decide (t.k=.room)).length
 r5:(T.filter λt=>decide (t.k=.room)).length<=5
 y1:(T.filter λt=>decide (t.k=.you)).map Th.n=[yN T]
 p7:(T.filter λt=>t.k.pl).length<=7
 m4:M.length<=4
 mo:∀m∈M,m.ok
 nm:∀x∈T.map Th.n++M.map Mk.n,Nm x
 nd:(T.map Th.n++M.map Mk.n).Nodup
 st:∀t∈T,F6 T t
 rk:∃r,Ow T r
 wd:∀t∈T,zZ [.a7 (t.w.map D.str)]=Z (.X γ)
 wa:∀t∈T,∀u∈T,t.k.pl=γ->u.k.pl=γ->u.n≠t.n->PJ u t
 wl:∀t∈T,t.k.pl=γ->t.w.length<=3/\∀x∈t.w,x∈wpL
 d0:dk.length<=5
 d1:dk.Nodup
 d2:∀x∈dk,x∈gk T
 w8:W.length<=8
 wo:∀w∈W,M5 T M w
 wn:(W.map λw=>[w.r,w.w]).Nodup
section
def ea.t?(g:ea T M a W):(T.map Th.n).Nodup:=(cu.1 g.nd).1
def EB(T:List Th)(M:List Mk)(a:T.length<=200)(hM:M.length<=4):zw [TD T,MD M]=Z ((tj T M).map D.str):=by
 have h:=cy (λt:Th=>t.k.mk) T;refine(Ab U (xF (xw (wj (xx ey (λt=>D.str t.n) (λt=>t.k.mk) T U (by omega) λt s=>#v[[.I (ey t)],[.I (ey t)],U,we (wb U U U U (PF t)),λs=>#v[_,wt U (BP t),U],λs=>U]))
  (wj (xq D? (λt=>D.str t.n) M U (by omega) λt s=>#v[_,_,U,wt U (Lm t),U])) (by rw[ae,ae];omega)))).t ?_
 unfold tj;rw[aX,aY,aY];rfl
def Ji(g:ea T M a W)(d:m<64):BL [TD T,MD M,.a3 (a.map D.str),WD W,VD (vL m),VD v9]=Z .U:=by
 have j:=g.len;have b:=g.m4;have hdk:a.length<=1000:=by have:=g.d0;omega
 have h:=by have:=bE cP g.y1;rw[ae]at this;exact this
 obtain⟨r,e⟩:=g.rk;let c:bc:=[.I (TD T),.I (MD M),.I (.a3 (a.map D.str)),.I (WD W),.I (VD (vL m)),.I (VD v9),.I (.a3 ((gk T).map D.str))];refine BE (ρ:=c) U ?_;refine(vz (xP (vt U (HG T (by omega) g.r1 g.r5 h g.p7)))).t ?_;refine(vz (xP (vt U (Jb M g.m4 g.mo)))).t ?_;refine(vz (xP (vt U (Jc T M (by omega) (by omega) g.nm g.nd)))).t ?_;refine(vz (xP (vt U (HI T (by omega) g.t? r e g.st)))).t ?_;refine(vz (xP (vt U (Jd T (by omega) g.wd g.wa)))).t ?_;refine(vz ((wV (wj (MY T (by omega) U))))).t ?_;refine(vz (xP (vt U (JM a (gk T) hdk g.d1 g.d2)))).t ?_;refine(vz (xP (vt (vv U (vv U (vv (wj (vt U (EB T M (by omega) b))) U))) (JO g.w8 g.wo g.wn)))).t ?_;refine(vz (xP (vt U (Jf d)))).t ?_;refine xP (vt (vv U (vv U (vv ((wj (xw (ρ1:=c) U U ?_)).t (by rw[<-aX])) U))) (Jh (by omega) g.wl g.w8 (λw f=>(g.wo w f).hw) d));have:=BS m;rw[ae,ae];show (vL m).length+9<=1000;omega
def Ox(T:List Th)(m:T.length<=900)(f:(T.map Th.n).Nodup):GP [TD T]=Z (.i0 (nK T) (T.map ey)):=by
 obtain⟨h,d⟩:=Cg (g:=gN 2) (i:=1) (fk:=c1 (vF vY "name") ah) (fv:=cV 2) ey Th.n ey (λb a s=>[.I (TD T),.dk b a,s])
  (λt b a s=>#v[[.I (TD T),.dk b a,.I (ey t)],U,U,U,wt U (BP t),λe c=>#v[_,U]]) T [] [] .un (by rw[cD];exact Ut f) (by simp;omega) U
 refine vJ (ρ:=[.I (TD T),.I (.i0 (nK T) (T.map ey)),h]) U ?_;refine(vz U).t ?_;refine(vz ((yV U).t d)).t ?_;rw[cD,cD];rfl
def mP(T:List Th)(M:List Mk):List (Str×Int):=(T.filter λt=>t.k.mk).map (λt=>(t.n,1))++M.map λm=>(m.n,m.mo)
def Lp(T:List Th)(M:List Mk):(mP T M).map cp=tj T M:=by unfold mP tj;rw[aX,aY,aY];rfl
def Xx(m:Mk):vF AS "most" (D? m)=Z (.int m.mo):=rfl
theorem GV:∀(l:List Th) (c:List d?) (d:List L4.D) (s:Sl),(c++(l.filter λt=>t.k.mk).map λt=>kS t.n).Nodup->c.length+l.length<=900->d.length=c.length->
  ∃j,fu (gN 3) (eg (cT (vU xZ "has_mark" ay vP)) (zJ 2 (c1 (vF vY "name") ay) az) vG) (l.map ey) [a,b,.dk c d,s,e]=Z (.nx [a,b,.dk (c++(l.filter λt=>t.k.mk).map λt=>kS t.n) (d++(l.filter λt=>t.k.mk).map λ_=>.int 1),j,e])
 |[],c,d,s,_,_,_=>#v[s,by simp;rfl]
 |t::l,c,d,s,f,u,o=>by
  rw[aU]at u;let r:=[a,b,.dk c d,.I (ey t),e];have m:cT (vU xZ "has_mark" ay vP) r=Z (t.k.mk,r):=we (wb U U U U (PF t));rw[aV];unfold fu;rw[show gN 3 (ey t) [a,b,.dk c d,s,e]=Z r from U];cases h:t.k.mk with
  |true=>
   rw[h]at m;rw[jK (p:=λt:Th=>t.k.mk) h,aV]at f;rw[jK (p:=λt:Th=>t.k.mk) h];have w:=λz=>by rw[cu]at f;exact f.2.2 _ z _ ba U
   obtain⟨j,q⟩:=GV l (c++[kS t.n]) (d++[.int 1]) (.I (ey t)) (by rw[b9];exact f) (by rw[aA,cU];omega) (by simp[o]);refine#v[j,?_];simp only[(wB m).t (M0 (i:=2) (fk:=c1 (vF vY "name") ay) (fv:=cC (.int 1)) U U (wt U (BP t)) w (by omega) o)];refine Eq.t q ?_;rw[b9,b9];rfl
  |false=>rw[h]at m;rw[ly (by rw[h];exact bH)]at f ⊢;obtain⟨j,q⟩:=GV l c d (.I (ey t)) f (by omega) o;refine#v[j,?_];simp only[w9 m,vG];exact q
def mD(T:List Th)(M:List Mk):L4.D:=.i0 ((mP T M).map λq=>kS q.1) ((mP T M).map λq=>.int q.2)
def ea.ndK(g:ea T M d W):(tj T M).Nodup:=by have h:=cu.1 g.nd;refine cu.2 #v[vd (lY.map _) h.1,h.2.1,λx b y c=>h.2.2 x ?_ y c];obtain⟨t,a,rfl⟩:=au.1 b;exact b8 (aQ.1 a).1
def Uy(g:ea T M a W):((mP T M).map λq=>kS q.1).Nodup:=by have:=AA g.ndK;rw[<-Lp,aY]at this;exact this
def Uz(g:ea T M r W):Ae [TD T,MD M]=Z (mD T M):=by
 have d:=Uy g;have y:=g.len;have z:=g.m4;have f:(mP T M).map (λq=>kS q.1)=(T.filter λt=>t.k.mk).map (λt=>kS t.n)++M.map λm=>kS m.n:=by unfold mP;rw[aX,aY,aY];rfl
 have b:(mP T M).map (λq=>D.int q.2)=(T.filter λt=>t.k.mk).map (λ_=>D.int 1)++M.map λm=>D.int m.mo:=by unfold mP;rw[aX,aY,aY];rfl
 rw[f]at d;have x:=cy (λt:Th=>t.k.mk) T;obtain⟨e,h⟩:=GV T [] [] .un (by rw[cD];exact(cu.1 d).1) (by simp;omega) U;rw[cD,cD]at h;obtain⟨p,l⟩:=Cg (g:=gN 4) (i:=2) (fk:=c1 (vF vY "name") aG) (fv:=c1 (vF AS "most") aG) D? Mk.n (λm=>.int m.mo) (λc a s=>[.I (TD T),.I (MD M),.dk c a,e,s])
  (λm c a s=>#v[[.I (TD T),.I (MD M),.dk c a,e,.I (D? m)],U,wt U (Xx m),U,wt U (Lm m),λo j=>#v[_,U]]) M ((T.filter λt=>t.k.mk).map λt=>kS t.n) ((T.filter λt=>t.k.mk).map λ_=>.int 1) .un d (by rw[ae];omega) (by rw[ae,ae])
 refine vJ (ρ:=[.I (TD T),.I (MD M),.I (mD T M),e,p]) U ?_;refine(vz U).t ?_;refine(vz ((yV U).t h)).t ((vz ((yV U).t l)).t ?_);unfold mD;rw[f,b];rfl
def Jj(T:List Th)(c:T.length<=1000)(a:aB)(et:List L4.D)(k:Kd):Dt [.obj 14 ("kept_things" ::a) (TD T::et),.str k.s]=Z (.a3 ((T.filter λt=>decide (t.k=k)).map λt=>D.str t.n)):=by let b:bc:=[.I (.obj 14 ("kept_things" ::a) (TD T::et)),.I (.str k.s)];refine BF (ρ:=b) U ?_;exact xF (xx ey (λt=>D.str t.n) (λt=>decide (t.k=k)) T U c λt h=>#v[[.I (ey t),.I (.str k.s)],[.I (ey t),.I (.str k.s)],U,we (vw (wt U (BQ t)) U (F3 t.k k)),λh=>#v[_,wt U (BP t),U],λh=>U])
end
def vwD(V:List Vb):L4.D:=.i0 (V.flatMap λv=>v.ws.map kS) (V.flatMap λv=>v.ws.map λt=>k3 v)
def acC:((aC 64).map λm=>y4 [VD (vL m++v9)])=(aC 64).map λm=>Z (vwD (vL m++v9)):=by kernel_rfl
def aeI(a:m<64):y4 [VD (vL m++v9)]=Z (vwD (vL m++v9)):=List.map_inj_left.1 acC m (bB.2 a)
theorem Oy:∀V:List Vb,(V.flatMap λv=>v.ws.map kS).zip (V.flatMap λv=>v.ws.map λt=>k3 v)=V.flatMap λv=>v.ws.map λx=>(kS x,k3 v)
 |[]=>rfl
 |v::V=>by rw[gv,gv,gv,mL (by rw[ae,ae]),Oy V,jm]
def Lq{V:List Vb}(b:(V.flatMap Vb.ws).Nodup)(a:v∈V):Dp (vwD V) (.str v.n)=Z (k3 v):=by
 show Z ((xn (V.flatMap λv=>v.ws.map kS) (V.flatMap λv=>v.ws.map λt=>k3 v) (kS v.n)).getD .U)=_;rw[AQ]
 .rfl
 .have:=AA b;rw[qE]at this;exact this
 .rw[Oy];exact dB.2 #v[v,a,au.2 #v[v.n,ba,U]]
def wNs:aB:=["kept_things", "kept_marks", "kept_dark", "kept_ways", "kept_verbs", "shared_verbs", "your_name", "things_by_name", "mosts_by_name", "verbs_by_word", "kept_rules", "shared_rules", "copied_rules", "rules_by_verb"]
def fm(T:List Th)(M:List Mk)(dk:aB)(W:List Wy)(V:List Vb):L4.D:=.obj 14 (wNs.take 10) [TD T,MD M,.a3 (dk.map D.str),WD W,VD V,VD v9,.str (yN T),.i0 (nK T) (T.map ey),mD T M,vwD (V++v9)]
def k4:aB:=["one", "two", "alone", "way"]
def xL:aB:="here" ::τ
def acD:(k4.all λf=>xL.all λx=>isF (xa [.str f,.str x]))=γ:=by kernel_rfl
def acE:(k4.all λf=>τ.all λx=>isF (zL [.str f,.str x]))=γ:=by kernel_rfl
set_option r "Ki xL xa D;YM τ zL E" in def ϑ0(a:f∈k4)(b:x∈ϑ1):ϑ2 [.str f,.str x]=Z (.X δ):=Us (aH.1 (aH.1 acϑ3 f a) x b)
def UA(a:f∈k4):zL [.str f,.str "here"]=Z (.X γ):=Dj (aH.1 (show (k4.all λf=>isT (zL [.str f,.str "here"]))=γ by kernel_rfl) f a)
def By(f x:Str):Prop:=(x="it" /\ f∈(["one", "two"]:aB))\/(x="other" /\ f="two")
def Lr(h:By f x):xa [.str f,.str x]=Z (.X γ):=by
 rcases h with ⟨rfl,h⟩|⟨rfl,rfl⟩
 .exact Dj (aH.1 (show ((["one", "two"]:aB).all λf=>isT (xa [.str f,.str "it"]))=γ by kernel_rfl) f h)
 .kernel_rfl
def Tm(f:Str)(N:aB)(x:Str):Prop:=x∈N\/x="here" \/ By f x
section
variable{V:List Vb}
def UB(g:ea T M a W)(h:t∈T):t.n∈τ:=g.nm _ (bC _ (b8 h))
def aeJ(g:ea T M a W)(h:t∈T):x4 [fm T M a W V,.str t.n]=Z (ey t):=by
 have e:x4 [fm T M a W V,.str t.n]=Z ((xn (nK T) (T.map ey) (kS t.n)).getD .U):=by kernel_rfl
 rw[e,F7 g.t? ey h];rfl
def aeK(g:ea T M a W)(h:q∈mP T M):yq [fm T M a W V,.str q.1]=Z (.int q.2):=by
 have e:yq [fm T M a W V,.str q.1]=Z ((xn ((mP T M).map λq=>kS q.1) ((mP T M).map λq=>.int q.2) (kS q.1)).getD .U):=by kernel_rfl
 rw[e,AQ (Uy g)]
 .rfl
 .rw[jm];exact b8 h
def F9(h:c ρ=Z (γ,a)):mw c e b ρ=e a:=by unfold mw;rw[h]
def nmd(g:ea T M a W)(h:t∈T):Bq [fm T M a W V,.str t.n]=Z (ey t):=by let b:bc:=[.I (fm T M a W V),.I (.str t.n)];refine vJ (ρ:=b) U (vS ?_);refine(F9 U).t ?_;exact wb U U U U (aeJ g h)
def Dl(g:ea T M c W)(a:f∈k4)(h:Tm f (T.map Th.n) x):Cd [fm T M c W V,.str f,.str x]=Z (.X γ):=by
 let d:bc:=[.I (fm T M c W V),.I (.str f),.I (.str x)];refine vJ (ρ:=d) U (vS ?_);rcases h with h|rfl|h
 .obtain⟨t,b,rfl⟩:=au.1 h;refine(F8 (vt U (Ki a (a9 _ (UB g b))))).t ((F8 (vt U (YM a (UB g b)))).t ?_);exact vw (vt U (nmd g b)) U U
 .exact(F8 (vt U (Ki a ba))).t (Lo (vt U (UA a)))
 .exact Lo (vt U (Lr h))
def hd_T(h:x∈n? T):∃t∈T,t.n=x/\t.k.hd=γ:=by obtain⟨t,a,rfl⟩:=au.1 h;exact#v[t,(aQ.1 a).1,U,(aQ.1 a).2]
def M6(b:c ρ=Z (γ,a)):xG c d ρ=Z (γ,a):=by unfold xG;rw[b]
def Hw(g:ea T M i W)(b:f∈k4)(h:Tm f (n? T) x):CQ [fm T M i W V,.str f,.str x]=Z (.X γ):=by
 let c:bc:=[.I (fm T M i W V),.I (.str f),.I (.str x)];refine vJ (ρ:=c) U ?_;rcases h with h|rfl|h
 .obtain⟨t,d,rfl,l⟩:=hd_T h;refine(vz ((w9 (yD (we (vt U (Ki b (a9 _ (UB g d))))) (we (vt U (YM b (UB g d)))))))).t (vS ?_);have e:=nmd (V:=V) g d;refine(vR (vw (vt U e) U U)).t ?_;have j:=wb (g:=wZ) (m:="can_hold") (a:=vP) (vt (a:=ax aa ck) (ρ:=c) U e) U U U (Ll t);rw[l]at j;exact j
 .exact wg ((wB (yD (we (vt U (Ki b ba))) (we (vt U (UA b))))))
 .exact wg ((wB (M6 (we (vt U (Lr h))))))
def YN(g:ea T M a W)(h:t∈T)(k:Kd):Ao [fm T M a W V,.str t.n,.str k.s]=Z (.X (decide (t.k=k))):=by let b:bc:=[.I (fm T M a W V),.I (.str t.n),.I (.str k.s)];refine vJ (ρ:=b) U (vS ?_);have e:=nmd (V:=V) g h;exact(vR (vw (vt U e) U U)).t (vw (wt (vt U e) (BQ t)) U (F3 t.k k))
def Mv(T:List Th)(f x:Str):Prop:=(∃t∈T,t.n=x/\t.k≠.room)\/By f x
def M7(g:ea T M b W)(d:f∈k4)(h:Mv T f x):EU [fm T M b W V,.str f,.str x]=Z (.X γ):=by
 let c:bc:=[.I (fm T M b W V),.I (.str f),.I (.str x)];refine vJ (ρ:=c) U ?_;rcases h with ⟨t,a,rfl,e⟩|h
 .refine(vz ((w9 (we (vt U (Ki d (a9 _ (UB g a)))))))).t (vS ?_);refine(vR (vw (vt U (nmd g a)) U U)).t ((Ln (vt U (YN g a .room))).t ?_);rw[aP e];rfl
 .exact wg ((wB (we (vt U (Lr h)))))
def Mt(T:List Th)(M:List Mk)(f:Str)(q:Str×Int):Prop:=q∈mP T M\/(By f q.1/\q.2<=3)
def UC(g:ea T M b W)(h:q∈mP T M):q.1∈τ:=by
 refine g.nm _ ?_;have h1:q.1∈tj T M:=by rw[<-Lp];exact b8 h
 rcases aZ.1 h1 with h1|h1
 .obtain⟨t,a,e⟩:=au.1 h1;exact bC _ (by rw[<-e];exact b8 (aQ.1 a).1)
 .exact bx _ h1
def EC(g:ea T M c W)(l:f∈k4)(h:Mt T M f q)(o:0<=v)(j:v<=q.2):y7 [fm T M c W V,.str f,.str q.1,.int v]=Z (.X γ):=by
 let a:bc:=[.I (fm T M c W V),.I (.str f),.I (.str q.1),.I (.int v),.un];have e:cT (c2 N0 ay av) a=Z (δ,a):=by show Z (decide (v<0),a)=_;rw[aP (by omega)]
 have d:eg (xG (xm (cT (vx AW f9))) (cT (c2 N0 ay av))) (vA cj) vG a=Z (.nx a):=(w9 (yD (yL (b:=γ) (we (vt U (by kernel_rfl)))) e));rcases h with h|⟨h,p⟩
 .let m:bc:=[.I (fm T M c W V),.I (.str f),.I (.str q.1),.I (.int v),.I (.int q.2)];refine vJ (ρ:=m) U ?_;refine(vz d).t ((vz ((w9 (we (vt U (Ki l (a9 _ (UC g h)))))))).t ?_);have i:mw (cT (c1 (wX (xy "str")) ah)) (vU xB "most_of" aa ck) aN a=Z (.int q.2,a):=by refine(F9 U).t ?_;exact wb U U U U (aeK g h)
  refine(vz ((wV i))).t (vS ((vR U).t (PH U U j)))
 .refine vJ (ρ:=a) U ?_;refine(vz d).t (wg ((wB (we (vt U (Lr h)))).t (vS (PH U U (by omega)))))
set_option r "hsO 4;seO 5" in def ϑ0(a:Str):L4.D:=.obj ϑ1 ["term"] [.str a]
def woO(a:Str):L4.D:=.obj 8 ["word"] [.str a]
def noO(d:L4.D):L4.D:=.obj 9 ["inner"] [d]
def boO(d e:L4.D):L4.D:=.obj 10 ["one", "other"] [d,e]
set_option r "atO b 3 place;kiO k 7 kind;S3 b 11 place" in def ϑ0(a ϑ1:Str):L4.D:=.obj ϑ2 ["term", "ϑ3"] [.str a,.str ϑ1]
set_option r "mkO 6;puO 12" in def ϑ0(a:Str)(v:Int):L4.D:=.obj ϑ1 ["term", "value"] [.str a,.int v]
def liO:L4.D:=.obj 15 [] []
def Tk(w:L4.D)(f:Str)(n:Nat)(d:L4.D):Prop:=y' 16 14 d=γ/\∀j:Nat,n<j->j<=4->zi j [w,.str f,d,.int j]=Z (.X γ)
def UD(j:Nat):eg (cT (c2 (cb δ) ay av)) (vA cj) vG [.I w,a,b,.I (.int ((j+1:Nat):Int))]=Z (.nx [.I w,a,b,.I (.int ((j+1:Nat):Int))]):=
 (w9 (we (vw U U ((xW δ _ 0).t (by rw[aP (by omega:¬((j+1:Nat):Int)=0)];rfl)))))
def ze(b:wX Uk d=Z (.X δ))(c:wX Oo d=Z (.X δ))(e:y' 16 14 d=γ)(h:Ag [w,.str f,d]=Z (.X γ)):Tk w f n d:=#v[e,λj i s=>by
 obtain⟨j,rfl⟩:∃k,j=k+1:=#v[j - 1,by omega];let a:bc:=[.I w,.I (.str f),.I d,.I (.int ((j+1:Nat):Int))];refine vJ (ρ:=a) U ?_;exact(vz (UD j)).t ((vz ((w9 (we (wt U b))))).t ((vz ((w9 (we (wt U c))))).t (vS (vt U h))))]
def sub1(h:cV 3 ρ=Z (.int ((j+1:Nat):Int),ρ)):c2 Ep ay az ρ=Z (.int j,ρ):=(vw h U U).t (by
 show Z (D.int (((j+1:Nat):Int) - 1),ρ)=_;rw[show ((j+1:Nat):Int) - 1=j by omega])
def UE(h:Tk w f n d):Tk w f (n+1) (noO d):=#v[by
 have e:y' 16 14 (noO d)=(y' 16 14 d&&γ):=by kernel_rfl
 rw[e,h.1];rfl,λj c b=>by
 obtain⟨j,rfl⟩:∃k,j=k+1:=#v[j - 1,by omega];let a:bc:=[.I w,.I (.str f),.I (noO d),.I (.int ((j+1:Nat):Int))];refine vJ (ρ:=a) U ?_;refine(vz (UD j)).t (wg ((wB U).t (vS ?_)));exact vt (vv U (vv U (vv U (vv (sub1 U) U)))) (h.2 j (by omega) (by omega))]
def Rw(h:Tk w f n d)(b:Tk w f n e):Tk w f (n+1) (boO d e):=#v[by
 have q:y' 16 14 (boO d e)=(y' 16 14 d&&(y' 16 14 e&&γ)):=by kernel_rfl
 rw[q,h.1,b.1];rfl,λj l i=>by
 obtain⟨j,rfl⟩:∃k,j=k+1:=#v[j - 1,by omega];let a:bc:=[.I w,.I (.str f),.I (boO d e),.I (.int ((j+1:Nat):Int))];refine vJ (ρ:=a) U ?_;refine(vz (UD j)).t ((vz ((w9 U))).t (wg ((wB U).t (vS ((vR (ρ1:=a) ?_).t ?_)))))
 .exact vt (vv U (vv U (vv U (vv (sub1 U) U)))) (h.2 j (by omega) (by omega))
 .exact vt (vv U (vv U (vv U (vv (sub1 U) U)))) (b.2 j (by omega) (by omega))]
end
section
variable{V:List Vb}
def aeL(g:ea T M c W)(d:f∈k4)(h:Tm f (T.map Th.n) a)(i:Tm f (n? T) b):Tk (fm T M c W V) f n (atO a b):=ze U U U (by
 let e:bc:=[.I (fm T M c W V),.I (.str f),.I (atO a b)];refine vJ (ρ:=e) U ?_;exact wg ((wB U).t (vS ((vR (vt U (Dl g d h))).t (vt U (Hw g d i))))))
def xj(q:c ρ=Z (δ,ρ)):a0 (eg c e vG) h ρ=h ρ:=vz ((w9 q))
set_option r "acG hsO;Xy seO" in def ϑ0(g:ea T M b W)(e:f∈k4)(d:Tm f (T.map Th.n) a):Tk (fm T M b W V) f n (ϑ1 a):=ze U U U (by
 let c:bc:=[.I (fm T M b W V),.I (.str f),.I (ϑ1 a)];refine vJ (ρ:=c) U ?_;exact(xj U).t (wg ((wB U).t (vS (vt U (Dl g e d))))))
def Xz(g:ea T M a W)(e:f∈k4)(h:Mt T M f q)(c:0<=v)(d:v<=q.2):Tk (fm T M a W V) f n (mkO q.1 v):=ze U U U (by
 let b:bc:=[.I (fm T M a W V),.I (.str f),.I (mkO q.1 v)];refine vJ (ρ:=b) U ?_;exact(xj U).t ((xj U).t (wg ((wB U).t (vS (vt U (EC g e h c d)))))))
def XA(g:ea T M b W)(h:f∈k4)(e:Tm f (T.map Th.n) a)(i:k∈(["plain", "fixed", "box", "lamp", "room", "you"]:aB)):Tk (fm T M b W V) f n (kiO a k):=ze U U U (by
 let c:bc:=[.I (fm T M b W V),.I (.str f),.I (kiO a k)];refine vJ (ρ:=c) U ?_;have d:=Dj (aH.1 (show ((["plain", "fixed", "box", "lamp", "room", "you"]:aB).all λx=>isT (wK [.str x,FK]))=γ by kernel_rfl) k i);exact(xj U).t ((xj U).t ((xj U).t (wg ((wB U).t (vS ((vR (vt U (Dl g h e))).t (vt U d))))))))
def XB(c:x∈υ):Tk w "way" n (woO x):=ze U U U (by
 let a:bc:=[.I w,.I (.str "way"),.I (woO x)];refine vJ (ρ:=a) U ?_;have b:=Dj (aH.1 (show (υ.all λx=>isT (yO [.str x]))=γ by kernel_rfl) x c);exact(xj U).t ((xj U).t ((xj U).t ((xj U).t (wg ((wB U).t (vS ((vR U).t (vt U b)))))))))
def acH:Tk w f n liO:=ze U U U (by kernel_rfl)
def Dd(w:L4.D)(f:Str)(d:L4.D):Prop:=y' 16 14 d=γ/\GT [w,.str f,d]=Z (.X γ)
def UF(g:ea T M a W)(e:f∈k4)(h:Mt T M f q)(c:0<=v)(d:v<=q.2):Dd (fm T M a W V) f (puO q.1 v):=#v[U,by
 let b:bc:=[.I (fm T M a W V),.I (.str f),.I (puO q.1 v)];refine vJ (ρ:=b) U ?_;exact wg ((wB U).t (vS (vt U (EC g e h c d))))]
def PN(g:ea T M d W)(j:f∈k4)(o:Mv T f a)(p:Tm f (n? T) b)(q:a=(yN T)->∃t∈T,t.n=b/\t.k=.room):Dd (fm T M d W V) f (S3 a b):=#v[U,by
 let c:bc:=[.I (fm T M d W V),.I (.str f),.I (S3 a b)];have e:GR [fm T M d W V,.str f,S3 a b]=Z (.X γ):=by
  refine vJ (ρ:=c) U ?_;refine(xj (yD (yL (we (vt U (M7 g j o)))) (yL (we (vt U (Hw g j p)))))).t (vS ?_);have i:c2 (cb γ) (c1 (vF Ca "term") ah) (vU AD "you" aa vP) c=Z (.X (!decide (a=(yN T))),c):=vw U U (xk γ a (yN T));by_cases h:a=(yN T)
  .obtain⟨t,r,l,m⟩:=q h;rw[aS h]at i;refine(F8 i).t (vt (ds:=[fm T M d W V,.str b,.str Kd.room.s]) U ?_);rw[<-l,YN g r .room,aS m]
  .rw[aP h]at i;exact Lo i
 refine vJ (ρ:=c) U ?_;exact(xj U).t (vS ((vR U).t (vt U e)))]
end
def gl:List d?->List (List L4.D)->d?->List L4.D
 |k::b,a::dss,j=>if k=j then a else gl b dss j
 |_,_,_=>[]
theorem PQ:∀(a:List d?) (dss:List (List L4.D)) (j:d?),(xn a (dss.map .a3) j).getD (.a3 [])=.a3 (gl a dss j)
 |[],dss,j=>by cases dss<;>rfl
 |k::a,[],j=>rfl
 |k::a,b::dss,j=>by
  rw[aV];unfold xn gl;by_cases h:k=j
  .rw[aj h,aj h];rfl
  .rw[ak h,ak h];exact PQ a dss j
theorem UG:∀(a:List d?) (dss:List (List L4.D)),a.length=dss.length->(k=j->k∈a)->gl a (fC (λl c=>if l=k then c++[d]else c) a dss) j=gl a dss j++if k=j then [d]else []
 |[],[],_,f=>by rw[ak λh=>(by cases f h)];rfl
 |[],_::_,h,_=>by cases h
 |_::_,[],h,_=>by cases h
 |i::a,c::dss,h,f=>by
  rw[iY];unfold gl;by_cases e:i=j
  .subst e;rw[aj U,aj U];by_cases b:i=k
   .rw[aj b,aj b.symm]
   .rw[ak b,ak λz=>b z.symm,cf]
  .rw[ak e,ak e];exact UG a dss (by simpa using h) λz=>by
    rcases aM.1 (f z)with y|y
    .exact aq (y.symm.t z) e
    .exact y
theorem UH:∀(a:List d?) (dss:List (List L4.D)),a.length=dss.length->k∉a->gl (a++[k]) (dss++[[d]]) j=gl a dss j++if k=j then [d]else []
 |[],[],_,_=>rfl
 |[],_::_,h,_=>by cases h
 |_::_,[],h,_=>by cases h
 |c::a,f::dss,h,b=>by
  rw[j5,j5];unfold gl;by_cases e:c=j
  .rw[aj e,aj e,ak λz=>b (by rw[z,e];exact ba),cf]
  .rw[ak e,ak e];exact UH a dss (by simpa using h) λz=>b (a9 _ z)
theorem UI{d:L4.D}{k:d?}{P Q:List L4.D->Prop}(e:∀a,P a->Q a)(f:∀a,P a->Q (a++[d])):∀(c:List d?) (dss:List (List L4.D)),(∀a∈dss,P a)->∀x∈fC (λi a=>if i=k then a++[d]else a) c dss,Q x
 |[],_,_,x,b=>by cases b
 |_::_,[],_,x,b=>by cases b
 |j::c,a::dss,h,x,b=>by
  rw[iY]at b;rcases aM.1 b with rfl|b
  .have:=h a ba;split
   .exact f _ this
   .exact e _ this
  .exact UI e f c dss (λa hd=>h a (a9 _ hd)) x b
theorem Jk(hd:y' 16 14 d=γ):∀a:List L4.D,Am 16 14 a=γ->Am 16 14 (a++[d])=γ
 |[],_=>by rw[cD];unfold Am;rw[hd];rfl
 |x::a,h=>by rw[j5];unfold Am at h ⊢;rw[aW]at h ⊢;exact#v[h.1,Jk hd a h.2]
theorem Ci:∀a:List L4.D,(∀d∈a,y' 16 14 d=γ)->Am 16 14 a=γ
 |[],_=>by unfold Am;rfl
 |x::a,h=>by unfold Am;rw[aW];exact#v[h x ba,Ci a λd hd=>h d (a9 _ hd)]
def kv(d:L4.D):d?:=match vF zu "verb" d with
 |some x=>(B4 x).getD (.inl 0)
 |none=>.inl 0
def gK(d:L4.D):Bool:=(match vF zu "verb" d with
 |some x=>(B4 x).isSome
 |none=>δ)&&y' 16 14 d
set_option h true
def aeM(h:gK d=γ):∃x,vF zu "verb" d=Z x/\B4 x=Z (kv d):=by
 unfold gK at h;rw[aW]at h;obtain⟨h,_⟩:=h;unfold kv;split at h
 .rename_i x e;rw[e];cases a:B4 x with
  |none=>rw[a]at h;cases h
  |some y=>exact#v[x,U,a]
 .cases h
set_option h false
theorem UJ:∀(L:List L4.D) (b:List d?) (dss:List (List L4.D)),(∀d∈L,gK d=γ)->b.length=dss.length->b.length+L.length<1000->(∀a∈dss,a.length+L.length<1000/\Am 16 14 a=γ)->
  ∃e dss',DK (vF zu "verb") L b dss=Z (e,dss')/\(∀j,gl e dss' j=gl b dss j++L.filter λd=>decide (kv d=j))/\∀a∈dss',Am 16 14 a=γ
 |[],b,dss,_,_,_,h=>#v[b,dss,U,λj=>by rw[List.filter_nil,cf],λa hd=>(h a hd).2]
 |d::L,b,dss,i,f,p,h=>by
  rw[aU]at p;have hL:∀a∈dss,a.length+L.length+1<1000/\Am 16 14 a=γ:=λa hd=>#v[by have:=(h a hd).1;rw[aU]at this;omega,(h a hd).2];have gd:=i d ba;have l:=by unfold gK at gd;rw[aW]at gd;exact gd.2
  obtain⟨x,m,o⟩:=aeM gd;have st:(Cw b dss (kv d) d).1.length=(Cw b dss (kv d) d).2.length/\(Cw b dss (kv d) d).1.length+L.length<1000/\(∀a∈(Cw b dss (kv d) d).2,a.length+L.length<1000/\Am 16 14 a=γ)/\∀j,gl (Cw b dss (kv d) d).1 (Cw b dss (kv d) d).2 j=gl b dss j++if kv d=j then [d]else []:=by
   unfold Cw;by_cases c:KY b (kv d)=γ
   .rw[aj c];refine#v[by simp only[lS];omega,by simp only;omega,UI (λa h=>#v[by omega,h.2]) (λa h=>#v[by rw[aA,cU];omega,Jk l a h.2]) b dss hL,λj=>UG b dss f λs=>Fy.1 c]
   .rw[ak c];refine#v[by simp[f],by simp only[aA,cU];omega,λa hd=>?_,λj=>UH b dss f λz=>c (Fy.2 z)];rcases aZ.1 hd with hd|hd
    .exact#v[by have:=(hL a hd).1;omega,(hL a hd).2]
    .rw[bu.1 hd];exact#v[by simp only[cU];omega,Jk l [] (by unfold Am;rfl)]
  obtain⟨u,w,y,A⟩:=st;obtain⟨e,dss',r,t,q3⟩:=UJ L (Cw b dss (kv d) d).1 (Cw b dss (kv d) d).2 (λx q=>i x (a9 _ q)) u w y;refine#v[e,dss',?_,λj=>?_,q3]
  .unfold DK;simp only[m,o];rw[aj]
   .exact r
   .rw[aW];refine#v[aS (by omega),aH.2 λa hd=>aS (by have:=(hL a hd).1;omega)]
  .rw[t j,A j,gx,b9];by_cases c:kv d=j
   .simp[c]
   .simp[c]
def ruN:aB:=["verb", "tests", "deeds", "text", "refuses"]
def p?(v:Str)(c a:List L4.D)(tx:Str)(b:Bool):L4.D:=.obj 13 ruN [.str v,.a3 c,.a3 a,.str tx,.X b]
structure RuOk(w d:L4.D):Prop where
 r:GU [w,d]=Z (.X γ)
 g:gK d=γ
 c:GQ [d]=Z d
section
variable{V:List Vb}
def Oz(b:((V++v9).flatMap Vb.ws).Nodup)(a:v∈V++v9):yt [fm T M dk W V,.str v.n]=Z (k3 v):=by
 have e:yt [fm T M dk W V,.str v.n]=Dp (vwD (V++v9)) (.str v.n):=by kernel_rfl
 rw[e,Lq b a]
def XD(y:∀v∈V,v∈v6)(C:((V++v9).flatMap Vb.ws).Nodup)(i:v∈V++v9)(o:∀t∈b,Tk (fm T M dk W V) v.f 2 t)(lt:b.length<=3)(hd:∀d∈a,Dd (fm T M dk W V) v.f d)(ld:a.length<=3)(A:m=γ->a=[])(B:Ce [.str tx]=Z (.X γ)):RuOk (fm T M dk W V) (p? v.n b a tx m):=by
 let w:=fm T M dk W V;let r:=p? v.n b a tx m;have l:v∈v6++v9:=by
  rcases aZ.1 i with i|i
  .exact bC _ (y v i)
  .exact bx _ i
 have evo:=Oz (T:=T) (M:=M) (dk:=dk) (W:=W) C i;have x:A3 [w,.str v.n]=Z (.X γ):=by let j:bc:=[.I w,.I (.str v.n)];have E:=Dj (aH.1 (show ((v6++v9).all λv=>isT (zg [.str v.n]))=γ by kernel_rfl) v l);have mt:vU xl "verb_of" aa bU j=Z (k3 v,j):=wb U U U U evo;refine vJ U (vS ((vR (vt U E)).t ((vR (vw mt U U)).t (vw (wt mt U) U ?_))));rw[xk];simp
 refine#v[?_,?_,by kernel_rfl]
 .let j:bc:=[.I w,.I r,.un];let F:bc:=[.I w,.I r,.I (.str v.f)];refine vJ (ρ:=F) U ?_;refine(xj (yD U (yD (yL (we (vt U x))) (yL (we (vt U B)))))).t ?_;refine(vz ((wV (wt (z:=.str v.f) (wb U U U U evo) U)))).t (vS ?_);have p:DW [w,.str v.f,.a3 b]=Z (.X γ):=vJ U (vS ((vR (vt U (PK _ _ (by omega)))).t (zC id b (by rw[iI];rfl) (by omega) λt c=>#v[[.I t,.I w,.I (.str v.f)],[.I t,.I w,.I (.str v.f)],U,vt U ((o t c).2 4 (by decide) (by decide)),U])));have q:DX [w,.str v.f,.a3 a]=Z (.X γ):=vJ U (vS ((vR (vt U (PK _ _ (by omega)))).t (zC id a (by rw[iI];rfl) (by omega) λt c=>#v[[.I t,.I w,.I (.str v.f)],[.I t,.I w,.I (.str v.f)],U,vt U (hd t c).2,U])));have u:zz [r]=Z (.X γ):=by
   cases m with
   |false=>kernel_rfl
   |true=>rw[show r=p? v.n b [] tx γ from by show p? v.n b a tx γ=_;rw[A U]];kernel_rfl
  exact(vR (vt U p)).t ((vR (vt U q)).t (vt U u))
 .have e:gK r=(Am 16 14 b&&(Am 16 14 a&&γ)):=by kernel_rfl
  rw[e,Ci b λt h=>(o t h).1,Ci a λt h=>(hd t h).1];rfl
end
def wtL(u:Str)(w:Wy):List L4.D:=[atO u w.r,woO w.w]++match w.m with|none=>[]|some m=>[noO (mkO m 0)]
def goO(u:Str)(w:Wy):L4.D:=p? "go" (wtL u w) [S3 u w.g] "You go." δ
def A21(u:Str):List L4.D:=(CP [.str u]).getD []++(DT []).getD []++(DU []).getD []++(BM []).getD []
def SH(u:Str)(W:List Wy):List L4.D:=A21 u++(W.map (goO u)++[p? "go" [] [] "No way there." γ])++[p? "wait" [] [] "Time goes by." δ]
def aeO(u:Str)(w:Wy):DV [.str u,l? w]=Z (wtL u w):=by obtain⟨r,x,g,m⟩:=w;cases m<;>kernel_rfl
def XE(u:Str)(w:Wy):A1 [.str "go", .a3 (wtL u w),.a3 [S3 u w.g],.str "You go."]=Z (goO u w):=by kernel_rfl
def aeP(u:Str)(W:List Wy)(b:W.length<=8):ET [.str u,WD W]=Z (W.map (goO u)++[p? "go" [] [] "No way there." γ]):=by
 let a:bc:=[.I (.str u),.I (WD W),.I (.a3 (W.map (goO u)))];refine Ab (ρ:=a) U ?_;refine(vz ((wV (wj (xq l? (goO u) W U (by omega) λw s=>#v[[.I (l? w),.I (.str u)],[.I (l? w),.I (.str u)],U,?_,U]))))).t ?_
 .exact vt (vv U (vv (wj (vt U (aeO u w))) U)) (XE u w)
 .exact xF (xw U (by kernel_rfl) (by rw[ae];show W.length+1<=1000;omega))
def PR(u:Str):(A21 u).length<=50:=bG (by kernel_rfl)
def acI(u:Str){W:List Wy}(a:W.length<=8):(SH u W).length<=100:=by have:=PR u;unfold SH;rw[aA,aA,aA,ae];show (A21 u).length+(W.length+1)+1<=100;omega
def Rx(u:Str)(W:List Wy)(b:W.length<=8):A2 [.str u,WD W]=Z (SH u W):=by
 have:=PR u;let a:bc:=[.I (.str u),.I (WD W)];refine Ab (ρ:=a) U (xF (xw (wj (xw (ρ1:=a) (by kernel_rfl) (wj (vt U (aeP u W b))) ?_)) (by kernel_rfl) ?_))
 .rw[aA,ae];show (A21 u).length+(W.length+1)<=1000;omega
 .rw[aA,aA,ae];show (A21 u).length+(W.length+1)+1<=1000;omega
def YO(u:Str)(W:List Wy):∀d∈SH u W,gK d=γ:=λd hd=>by
 rcases aZ.1 hd with hd|hd
 .rcases aZ.1 hd with hd|hd
  .exact aH.1 (show (A21 u).all gK=γ by kernel_rfl) d hd
  .rcases aZ.1 hd with hd|hd
   .obtain⟨w,_,rfl⟩:=au.1 hd;obtain⟨r,x,g,m⟩:=w;cases m<;>kernel_rfl
   .rw[bu.1 hd];kernel_rfl
 .rw[bu.1 hd];kernel_rfl
def acJ(h:gK d=γ):y' 16 14 d=γ:=by unfold gK at h;rw[aW]at h;exact h.2
section
variable{V:List Vb}
def wA(T:List Th)(M:List Mk)(a:aB)(W:List Wy)(V:List Vb)(R:List L4.D)(c:L4.D):List L4.D:=[TD T,MD M,.a3 (a.map D.str),WD W,VD V,VD v9,.str (yN T),.i0 (nK T) (T.map ey),mD T M,vwD (V++v9),.a3 R,.a3 (SH (yN T) W),.a3 R,c]
def wS(T:List Th)(M:List Mk)(a:aB)(W:List Wy)(V:List Vb)(R:List L4.D)(c:L4.D)(q:Sl)(k:Nat):bc:=[.ob 14 (wNs.take k) ((wA T M a W V R c).take k),.I (TD T),.I (MD M),.I (.a3 (a.map D.str)),.I (WD W),.I (VD V),.I (.a3 R),q]
def M8{r:bc}(c:e (.I (.obj 14 b a)::r.map EL)=Z (d,h))(f:y' 16 14 d=γ):Et 16 e (.ob 14 b a::r)=Z (d,.ob 14 b a::r):=by unfold Et;simp only[c,f];rfl
def Jl(f:e (.ob 14 a b::r)=Z (d,.ob 14 a b::r))(h:a.contains c=δ)(i:b.length=a.length)(j:a.length<900):wI 14 0 c e (.ob 14 a b::r)=Z (.nx (.ob 14 (a++[c]) (b++[d])::r)):=by unfold wI;rw[f];show (if 14=14 then if a.contains c=γ then O else if b.length=a.length then if a.length<900 then Z (A5.nx (.ob 14 (a++[c]) (b++[d])::r))else O else O else O)=_;rw[aj U,h,ak bH,aj i,aj j]
def Ga(V:List Vb)(lV:V.length<=6)(a b c d:L4.D)(f:aB)(e:List L4.D):Bp [.obj 14 ("kept_things" ::"kept_marks" ::"kept_dark" ::"kept_ways" ::"kept_verbs" ::"shared_verbs" ::f) (a::b::c::d::VD V::VD v9::e)]=Z (VD (V++v9)):=by refine(BF U (xF (xw U U (by rw[ae];show V.length+9<=1000;omega)))).t ?_;rw[<-aX]
def acK(b:∀v∈V,v∈v6):y' 16 14 (vwD (V++v9))=γ:=by
 refine Ci _ λd hd=>?_;obtain⟨v,a,hd⟩:=dB.1 hd;obtain⟨x,_,rfl⟩:=au.1 hd;refine aH.1 (show ((v6++v9).all λv=>y' 16 14 (k3 v))=γ by kernel_rfl) v ?_;rcases aZ.1 a with a|a
 .exact bC _ (b v a)
 .exact bx _ a
def UK(g:ea T M b W)(o:m<64)(hR:∀r∈R,RuOk (fm T M b W (vL m)) r)(lR:R.length<=12):∃f dss,Aq [TD T,MD M,.a3 (b.map D.str),WD W,VD (vL m),.a3 R]=Z (wNs,wA T M b W (vL m) R (.i0 f (dss.map .a3)))/\∀j,gl f dss j=(R++SH (yN T) W).filter λd=>decide (kv d=j):=by
 have A:=acI (yN T) g.w8;have z:=g.len;let V:=vL m;have lV:=BS m;have u:∀d∈R++SH (yN T) W,gK d=γ:=λd hd=>by
  rcases aZ.1 hd with hd|hd
  .exact(hR d hd).g
  .exact YO (yN T) W d hd
 obtain⟨f,dss,p,q,g3⟩:=UJ (R++SH (yN T) W) [] [] u U (by rw[aA];simp only[dD];omega) λl h=>(by cases h);let c:L4.D:=.i0 f (dss.map .a3);refine#v[f,dss,?_,λj=>(q j).t (cD _)];let B:Sl:=.I (.X γ);have x:=by show Am 16 14 (dss.map .a3)=γ;exact Ci _ λd hd=>by obtain⟨l,h,rfl⟩:=au.1 hd;exact g3 l h
 let S:=wS T M b W V R c;have e:Ap (S .un 0)=Z (.nx (S B 14)):=by
  refine(vz (xP (vt (vv U (vv U (vv U (vv U (vv U (vv (wj (vt U Uw)) U)))))) (Ji g o)))).t ?_;refine(vz (ρ':=S .un 1) (by kernel_rfl)).t ((vz (ρ':=S .un 2) (by kernel_rfl)).t ((vz (ρ':=S .un 3) (by kernel_rfl)).t ((vz (ρ':=S .un 4) (by kernel_rfl)).t ((vz (ρ':=S .un 5) (by kernel_rfl)).t ((vz (ρ':=S .un 6) (by kernel_rfl)).t ?_)))));have eY:((T.filter λt=>decide (t.k=.you)).map λt=>D.str t.n)=[.str (yN T)]:=by rw[show (λt:Th=>D.str t.n)=D.str∘Th.n from U,<- aY,g.y1];rfl
  refine(vz (Jl (M8 (vw (wb U U U U ((Jj T (by omega) _ _ .you).t (by rw[eY]))) U U) U) U U (by decide))).t ?_;refine(vz (Jl (vt U (Ox T (by omega) g.t?)) U U (by decide))).t ?_;refine(vz (Jl (vt U (Uz g)) U U (by decide))).t ?_;refine(vz (Jl (M8 (vt (vv (wb U U U U (Ga V lV _ _ _ _ _ _)) U) (aeI o)) (acK λv w=>D3 w)) U U (by decide))).t ?_;refine(vz ((wV (M8 ((vR (vt U (PK _ _ (by omega)))).t (zC id R (by rw[iI];rfl) (by omega) λr i=>?_)) U)))).t ?_
  .exact#v[[.I r,.I (fm T M b W V)],[.I r,.I (fm T M b W V)],U,vt U (hR r i).r,U]
  refine(vz (ρ':=S B 10) (by kernel_rfl)).t ((vz (ρ':=S B 11) (by kernel_rfl)).t ?_);refine(vz (Jl (M8 (wj (vt U (Rx (yN T) W g.w8))) (Ci _ λd hd=>acJ (YO (yN T) W d hd))) U U (by decide))).t ?_;refine(vz (Jl ((wj (xq (ρ1:=S B 12) id id R (by rw[iI];rfl) (by omega) λr i=>#v[[.I r],[.I r],U,vt U (hR r i).c,U])).t (by rw[iI];rfl)) U U (by decide))).t ?_;refine Jl (M8 (vt (vv (wj (xw U U (by omega))) U) ?_) x) U U (by decide);refine vJ (ρ:=[.I (.a3 (R++SH (yN T) W)),.un,.un]) U ?_;show (match DK (vF zu "verb") (R++SH (yN T) W) [] []with
   |some (f,dss)=>Z (A5.rt (.i0 f (dss.map .a3)) [.I (.a3 (R++SH (yN T) W)),.un,.un])
   |none=>O)=_
  rw[p]
 unfold Aq rl;rw[aj (show [TD T,MD M,.a3 (b.map D.str),WD W,VD V,.a3 R].length=6 from U)];rw[show Ap (stI 14 8 [TD T,MD M,.a3 (b.map D.str),WD W,VD V,.a3 R])=Z (.nx (S B 14)) from e];rfl
end
def W2{c d:Type}(x:Option (c×d))(k:c->d->Prop):Prop:=∃a b,x=Z (a,b)/\k a b
def Ws(x:Option A5)(n:bc->Prop)(r:L4.D->bc->Prop):Prop:=∃o,x=Z o/\match o with
 |.nx a=>n a
 |.rt d a=>r d a
 |.rn l a=>r (.a3 l) a
 |_=>False
def vy{c d:Type}{x:Option (c×d)}{a:c}{b:d}{k:c->d->Prop}(h:x=Z (a,b))(p:k a b):W2 x k:=#v[a,b,h,p]
section
variable{f g:FS}
def vC(w:Ws (f ρ) (λρ=>Ws (g ρ) n r) r):Ws (a0 f g ρ) n r:=by
 obtain⟨o,e,p⟩:=w;cases o with
 |nx ρ=>obtain⟨o,a,p⟩:=p;exact#v[o,(vz e).t a,p]
 |rt d ρ=>exact#v[_,wg e,p]
 |rn d ρ=>exact#v[_,by unfold a0;rw[e],p]
 |_=>exact p.elim
def z8(h:f ρ=Z (.nx a))(p:n a):Ws (f ρ) n r:=#v[_,h,p]
set_option r "y γ f B;n δ g 9" in def s_ϑ0(h:c ρ=Z (ϑ1,a))(w:Ws (ϑ2 a) n r):Ws (eg c f g ρ) n r:=by unfold Ws;rw[wϑ3 h];exact w
def Ls(w:W2 (c ρ) λb ρ=>(b=γ->Ws (f ρ) n r)/\(b=δ->Ws (g ρ) n r)):Ws (eg c f g ρ) n r:=by
 obtain⟨b,a,e,y,z⟩:=w;cases b with
 |true=>exact s_y e (y U)
 |false=>exact s_n e (z U)
set_option r "vT e ρ I vN a wV;OA a b Y xO c W3" in def ϑ0(w:W2 (ϑ1 ϑ2) λd ϑ2=>n (ϑ2.set i (.ϑ3 d))):Ws (ϑ4 i ϑ1 ϑ2) n r:=by obtain⟨d,ϑ5,h,p⟩:=w;exact#v[_,ϑ6 h,p]
def D5(w:W2 (e ρ) λt ρ=>n ρ):Ws (wc e ρ) n r:=by obtain⟨d,a,h,p⟩:=w;exact#v[_,xP h,p]
def wy(w:W2 (e ρ) r):Ws (vA e ρ) n r:=by obtain⟨d,a,h,p⟩:=w;exact#v[_,vS h,p]
def OB(w:W2 (a ρ) λd=>r (.a3 d)):Ws (wW a ρ) n r:=by obtain⟨d,b,h,p⟩:=w;exact#v[_,xF h,p]
def Lu{g:FG}(w:W2 (e ρ) λd ρ=>∃a,g d ρ=Z a/\n a):Ws (Fl e g ρ) n r:=by obtain⟨d,a,h,b,c,p⟩:=w;exact#v[.nx b,by unfold Fl;rw[h];simp only[c],p]
def w_L(w:W2 (a ρ) λd ρ=>k (.a3 d) ρ):W2 (cL a ρ) k:=by obtain⟨d,b,h,p⟩:=w;exact#v[_,_,wj h,p]
def w_ap(j:yB a i=Z c)(w:W2 (e a) λd a=>∃b,yB a i=Z b/\b.length<1000/\k .U (putAt a i (b++[d]))):W2 (zT i e a) k:=by obtain⟨d,o,h,b,l,m,p⟩:=w;exact#v[_,_,za j h l m,p]
def Ry(w:W2 (e ρ) λd ρ=>∃m:Nat,d=.int m/\m<=100/\kl ((aC m).map λj:Nat=>D.int j) ρ):W2 (r? e ρ) kl:=by obtain⟨_,a,h,m,rfl,b,p⟩:=w;refine#v[_,a,?_,p];unfold r?;rw[h];dsimp only;rw[aj (by omega),gr];unfold Iw;simp
def Cj(h:e ρ=Z (.a3 b,a)):iL e ρ=Z (b,a):=by unfold iL;rw[h]
def X?{R:bc->Prop}(p:R ρ)(k:∀ρ,R ρ->Ws (f ρ) n r):Ws (f ρ) n r:=k _ p
def Kj(R:bc->Prop)(w:Ws (f a) R r)(k:∀a,R a->Ws (g a) n r):Ws (a0 f g a) n r:=by
 refine vC ?_;obtain⟨o,e,p⟩:=w;refine#v[o,e,?_];cases o with
 |nx a=>exact k a p
 |_=>exact p
def e4(q:c ρ=Z (δ,a))(w:Ws (g a) n r):Ws (a0 (eg c h vG) g ρ) n r:=vC (s_n q (z8 U w))
def j2(q:c ρ=Z (γ,a))(w:Ws (f a) (λρ=>Ws (g ρ) n r) r):Ws (a0 (eg c f h) g ρ) n r:=vC (s_y q w)
def w_oA{k:Option Int->bc->Prop}(w:W2 (e ρ) λd ρ=>∃j,d=.int j/\k (Z j) ρ):W2 (o3 e ρ) k:=by obtain⟨_,a,h,j,rfl,p⟩:=w;exact#v[Z j,a,by unfold o3;rw[h],p]
def w_sx(w:W2 (e ρ) λd ρ=>∃a,d=.a3 a/\W2 (lo ρ) λl ρ=>W2 (hi ρ) λu ρ=>i (fb a l u) ρ):W2 (Dy e lo hi ρ) i:=by obtain⟨_,j,h,a,rfl,l,m,b,u,o,c,p⟩:=w;exact#v[_,_,by unfold Dy;rw[h];simp only[b,c],p]
def w_an(w:W2 (c a) λb a=>(b=γ->W2 (e a) d)/\(b=δ->d δ a)):W2 (xI c e a) d:=by
 obtain⟨b,i,h,y,z⟩:=w;unfold xI;rw[h];cases b with
 |true=>exact y U
 |false=>exact#v[_,_,U,z U]
theorem s_fl{a:FG}{J:Nat->bc->Prop}:∀(c:List L4.D) (i:Nat) (b:bc),J i b->(∀m d b,c[m]?=Z d->J (i+m) b->∃e,a d b=Z e/\Ws (f e) (J (i+m+1)) r)->Ws (fu a f c b) (J (i+c.length)) r
 |[],i,b,j,_=>#v[_,U,j]
 |d::c,i,b,j,st=>by
  obtain⟨e,q,o,t,p⟩:=st 0 d b U j;unfold Ws fu;simp only[q,t];cases o with
  |nx l=>rw[aU,show i+(c.length+1)=i+1+c.length by omega];exact s_fl c (i+1) l p λm d b h j=>by rw[show i+1+m=i+(m+1) by omega]at j ⊢;exact st (m+1) d b h j
  |rt d b=>exact#v[_,U,p]
  |rn d b=>exact#v[_,U,p]
  |_=>exact p.elim
def BU{s:FA}{a:FG}(w:W2 (s ρ) λb ρ=>∃J:Nat->bc->Prop,J 0 ρ/\(∀m d ρ,b[m]?=Z d->J m ρ->∃ρ1,a d ρ=Z ρ1/\Ws (f ρ1) (J (m+1)) r)/\∀ρ,J b.length ρ->n ρ):Ws (xS s a f ρ) n r:=by
 obtain⟨b,c,q,J,j,st,fin⟩:=w;obtain⟨o,e,p⟩:=s_fl b 0 c j λm d ρ h j=>by rw[iy]at j ⊢;exact st m d ρ h j
 rw[iy]at p;refine#v[o,(yV q).t e,?_];cases o with
 |nx ρ=>exact fin ρ p
 |_=>exact p
end
section
def Gb{f n:Nat}{b:FS}{a:List L4.D}{Q:L4.D->Prop}(c:a.length=f)(w:Ws (b (w? n a)) (λt=>False) λd t=>Q d):∃d,dr f n b a=Z d/\Q d:=by
 obtain⟨o,e,p⟩:=w;cases o with
 |rt d h=>exact#v[d,vJ c e,p]
 |rn d h=>exact#v[_,BF c e,p]
 |_=>exact p.elim
def xV{a:List L4.D}(c:a.length=f)(w:Ws (b (w? n a)) (λt=>False) λd t=>d=z):dr f n b a=Z z:=by obtain⟨_,e,rfl⟩:=Gb c w;exact e
end
def snoc{b:Type}{P:b->Prop}{l:List b}{x:b}(h:∀y∈l,P y)(c:P x):∀y∈l++[x],P y:=λy a=>(aZ.1 a).elim (h y) λa=>by rw[bu.1 a];exact c
def D6(h:((aC n).map λj:Nat=>D.int j)[m]?=Z d):m<n/\d=.int m:=by
 rw[bg]at h;by_cases a:m<n
 .rw[lQ a]at h;exact#v[a,(cW h).symm]
 .rw[gj (by rw[bL];omega)]at h;cases h
abbrev dN(k:Nat):L4.D:=.int (k:Nat)
def dl(l:List Nat):L4.D:=.a3 (l.map dN)
def gd(l:List Nat)(i:Nat):Nat:=l.getD i 0
def zD{l:List Nat}(h:i<l.length):b3 (dl l) (dN i)=Z (dN (gd l i)):=yy (by
 rw[bg,aO h];unfold gd;rw[bQ,aO h];rfl)
def md(h:0<b):vZ (dN a) (dN b)=Z (dN (a % b)):=Cu (by omega)
def dv(h:0<b)(c:b<1073741824):wY (dN a) (dN b)=Z (dN (a / b)):=rz (by omega) (by omega)
def DA{L:aB}(h:i<L.length):b3 (.a3 (L.map D.str)) (dN i)=Z (.str (L.getD i "")):=yy (by
 rw[bg,aO h,bQ,aO h];rfl)
def wL{a:Type}{L:List a}{i:Nat}{z:a}(h:i<L.length):L.getD i z∈L:=by rw[bQ,aO h];exact fj h
def aeT{m n i:Nat}{b A B f:FS}{s:FA}{a:FG}{l:List L4.D}{h j:bc}{Q:List L4.D->Prop}(y:b=a0 A (a0 B (a0 (xS s a f) (wW (Fm i)))))(z:l.length=m)(u:A (w? n l)=Z (.nx h))(x:B h=Z (.nx j))(w:Ws (xS s a f j) (λr=>∃c d,Fm i r=Z (c,d)/\Q c) λ_ _=>False):∃c,qt m n b l=Z c/\Q c:=by
 subst y;obtain⟨o,e,p⟩:=w;cases o with
 |nx r=>obtain⟨c,d,t,q⟩:=p;exact#v[c,Ab z ((vz u).t ((vz x).t ((vz e).t (xF t)))),q]
 |_=>exact p.elim
def Jm(c:Int)(n:Nat)(r:n<=100):∃l:List Nat,l.length=n/\yS [.int c,dN n]=Z (l.map dN):=by
 let J:=λ(i:Nat) (t:bc)=>∃(l:List Nat) (et:Int) (d f:Sl),t=[.I (.int c),.I (dN n),.Y (l.map dN),.I (.int et),d,f]/\l.length=i
 suffices h:∃j,yS [.int c,dN n]=Z j/\∃l:List Nat,j=l.map dN/\l.length=n by obtain⟨j,e,l,rfl,a⟩:=h;exact#v[l,a,e]
 refine aeT U U U U (BU (Ry (vy U #v[n,U,r,J,#v[[],c,.un,.un,U,U],?_,?_])))
 .rintro i _ _ hd ⟨l,et,d,f,rfl,a⟩;obtain⟨u,rfl⟩:=D6 hd;have hll:(l.map dN).length<1000:=by rw[ae];omega
  have app:∀v:Nat,l.map dN++[dN v]=(l++[v]).map dN:=λv=>by rw[aX];rfl
  refine#v[_,U,Ls (w_an (vy (we (vw U U U)) #v[λs=>vy (we (vw U U U)) #v[λq=>?_,λs=>?_],λs=>#v[λz=>(by cases z),λs=>?_]]))]
  .have w:=bh q;obtain⟨v,b⟩:=oR (jk et (show (10007:Int)≠0 by decide));exact vC (D5 (w_ap U (vy (vw U U (Cu (by decide))) #v[_,U,hll,vT (vy (vw U U (rz (by decide) (by decide))) #v[l++[v],_,_,_,by rw[<-app,show dN v=.int (et % 10007) from bE D.int b.symm];rfl,by rw[aA,a];rfl])])))
  all_goals
   have key:∀x:Int,0<=x % 2147483647/\x % 2147483647<2147483647:=λx=>#v[jk _ (by decide),mf _ (by decide)];let m:=(c % 2147483647+7919 * i+1) * 48271 % 2147483647;let o:=m * (m / 1009+69621) % 2147483647;let p:=o * (o / 2003+40692) % 2147483399;obtain⟨v,b⟩:=oR (show 0<=p from jk _ (by decide));refine vC (vT (vy (vw (vw (vw (vw (vw U U (Cu (by decide))) (vw U U (yu (.inl (by decide)))) U) U U) U (yu (.inr (by decide)))) U (Cu (by decide))) ?_));refine vC (vT (vy (vw (vw U (vw (vw U U (rz (by decide) (by decide))) U U) (yu (.inl (B3 (key _).1 (key _).2)))) U (Cu (by decide))) ?_));exact D5 (w_ap U (vy (vw (vw U (vw (vw U U (rz (by decide) (by decide))) U U) (yu (.inl (B3 (key _).1 (key _).2)))) U (Cu (by decide))) #v[_,U,hll,l++[v],et,_,_,by rw[<-app,show dN v=.int p from bE D.int b.symm];rfl,by rw[aA,a];rfl]))
 .rintro _ ⟨l,et,d,f,rfl,a⟩;rw[ae,bL]at a;exact#v[_,_,U,l,U,a]
def aeU(b:a∈ahL)(c:x∈smL):a++x∈τ:=by
 have h:a++x∈nmA a:=au.2 #v[x,c,U];simp only[ahL,aM,cg,or_false]at b;rcases b with rfl|rfl|rfl|rfl
 .exact bC _ (bC _ h)
 .exact bC _ (bC _ h)
 .exact bC _ (bx _ h)
 .exact bx _ h
def aeV:(ahL.all λa=>decide (nmA a).Nodup)=γ:=by kernel_rfl
def aeW:((aC 17).all λs=>(aC 16).all λt=>decide ((aC 14).map λk=>(s+k * (1+t)) % 17).Nodup)=γ:=by kernel_rfl
def nmF(a:Str)(x t k:Nat):Str:=a++smL.getD ((x+k * (1+t)) % 17) ""
def acM(a:Str)(x t k:Nat):nmF a x t k=(nmA a).getD ((x+k * (1+t)) % 17) "" := by have h:(x+k * (1+t)) % 17<smL.length:=aK _ (by decide);unfold nmF nmA;rw[bQ,bQ,bg,aO h];rfl
def aeX(h:a∈ahL)(x:Nat)(o:t<16):((aC 14).map (nmF a x t)).Nodup:=by
 have d:=bh (aH.1 (aH.1 aeW (x % 17) (bB.2 (aK _ (by decide)))) t (bB.2 o));have f:=bh (aH.1 aeV a h);rw[show (λk=>(x % 17+k * (1+t)) % 17)=λk=>(x+k * (1+t)) % 17 from funext λk=>mQ _ _ _]at d;have e:(aC 14).map (nmF a x t)=((aC 14).map λk=>(x+k * (1+t)) % 17).map λi=>(nmA a).getD i "" := by rw[aY];exact jP λk s=>acM a x t k
 rw[e];have c:(nmA a).length=17:=by unfold nmA;rw[ae];rfl
 have b:∀z,z % 17<(nmA a).length:=λz=>by rw[c];exact aK _ (by decide)
 refine mB.2 (d.imp_of_mem λ{i j} l m p q=>p ?_);obtain⟨_,_,rfl⟩:=au.1 l;obtain⟨_,_,rfl⟩:=au.1 m;rw[bQ,aO (b _),bQ,aO (b _)]at q;exact(jZ f).1 q
structure Nms(N:aB):Prop where
 len:N.length=14
 nd:N.Nodup
 nm:∀x∈N,x∈τ
def UM{l:List Nat}(f:l.length=32):∃N,Da [dl l]=Z (.a3 (N.map D.str))/\Nms N:=by
 let a:=ahL.getD (gd l 0 % 4) "";have b:a∈ahL:=wL (aK _ (by decide));let N:=(aC 14).map (nmF a (gd l 1) (gd l 2 % 16));refine#v[N,?_,by show ((aC 14).map _).length=14;rw[ae];rfl,aeX b _ (aK _ (by decide)),λx c=>?_]
 .let d:bc:=[.I (dl l),.I (.a3 (smL.map D.str)),.I (.str a)];refine BF (ρ:=d) U ?_;refine(vz U).t ((vz U).t ((vz (wV (vw U (vw (vw U U (zD (by omega))) U (md (by decide))) (DA (L:=ahL) (show gd l 0 % 4<4 from aK _ (by decide)))))).t ?_));refine(xF (xq (λk:Nat=>dN k) (λk=>.str (nmF a (gd l 1) (gd l 2 % 16) k)) (aC 14) (by kernel_rfl) (by rw[bL];decide) λk e=>#v[[.I (dN k),.I (.str a),.I (.a3 (smL.map D.str)),.I (dl l)],_,U,vw U (vw U (vw (vw (vw U U (zD (i:=1) (by omega))) (vw U (vw U (vw (vw U U (zD (i:=2) (by omega))) U (md (by decide))) U) (yu (.inl ?_))) U) U (md (by decide))) (DA (show (gd l 1+k * (1+gd l 2 % 16)) % 17<17 from aK _ (by decide)))) ?_,U])).t (by show _=Z (A5.rn (((aC 14).map (nmF a (gd l 1) (gd l 2 % 16))).map D.str) d);rw[aY];rfl)
  .have:=bB.1 e;exact B3 (by omega) (by omega)
  .have c:smL.getD ((gd l 1+k * (1+gd l 2 % 16)) % 17) "" ∈ smL:=wL (aK _ (by decide));have h:=bh (aH.1 (show (ahL.all λx=>decide (x.length<=8))=γ by kernel_rfl) a b);have j:=bh (aH.1 (show (smL.all λx=>decide (x.length<=8))=γ by kernel_rfl) _ c);show (if a.length+(smL.getD ((gd l 1+k * (1+gd l 2 % 16)) % 17) "").length<=100000 then Z (D.str _)else O)=_;rw[aj (by omega)];rfl
 .obtain⟨k,_,rfl⟩:=au.1 c;exact aeU b (wL (aK _ (by decide)))
def muL:List Nat:=[1,1,2,2,4,6,7,24]
def MS(l:List Nat)(k:Nat):Nat:=(gd l 3+k * muL.getD (gd l 4 % 8) 0) % 25
def η(l:List Nat):Str:=tlL.getD (gd l 5 % 3) ""
def clF(l:List Nat)(k:Nat):Str:=XC.getD (MS l k % 5) "" ++ η l
def laF(l:List Nat)(k:Nat):Str:=T'.getD (MS l k / 5) "" ++ η l
def exF(l:List Nat)(k:Nat):Str:=exL.getD (gd l 8 / (1+k) % 3) ""
def rr(l:List Nat)(k:Nat):aB:=if gd l 6 / (1+k) % 3=0 then lb [clF l k,laF l k] (gd l 7 / (1+k) % 3) (exF l k)else [clF l k,laF l k]
def M9(l:List Nat):η l∈tlL:=wL (aK _ (by decide))
def YQ(l:List Nat)(k:Nat):exF l k∈exL:=wL (aK _ (by decide))
def UN(l:List Nat)(k:Nat):MS l k<25:=aK _ (by decide)
def PU(l:List Nat)(k:Nat):MS l k % 5<XC.length:=aK _ (by decide)
def PV(l:List Nat)(k:Nat):MS l k / 5<T'.length:=by have:=UN l k;show _<5;omega
def OC(h:x∈rr l k):x=clF l k\/x=laF l k\/x∈exL:=by
 unfold rr at h;split at h
 .unfold lb at h;rcases aZ.1 h with h|h
  .have:=ph h;simp only[aM,cg,or_false]at this;exact this.elim .inl λh=>.inr (.inl h)
  .rcases aM.1 h with rfl|h
   .exact .inr (.inr (YQ l k))
   .have:=lK h;simp only[aM,cg,or_false]at this;exact this.elim .inl λh=>.inr (.inl h)
 .simp only[aM,cg,or_false]at h;exact h.elim .inl λh=>.inr (.inl h)
set_option r "Y clF;Z laF" in def aeϑ0(l:List Nat)(k:Nat):ϑ1 l k∈rr l k:=by
 unfold rr;split
 .have h:gd l 7 / (1+k) % 3<3:=aK _ (by decide);generalize gd l 7 / (1+k) % 3=p at h;rcases(by omega:p=0\/p=1\/p=2)with rfl|rfl|rfl<;>simp[lb]
 .simp
def Lv(l:List Nat)(k:Nat):2<=(rr l k).length/\(rr l k).length<=3:=by
 unfold rr;split
 .have h:gd l 7 / (1+k) % 3<3:=aK _ (by decide);generalize gd l 7 / (1+k) % 3=p at h;rcases(by omega:p=0\/p=1\/p=2)with rfl|rfl|rfl<;>exact#v[by simp[lb],by simp[lb]]
 .exact#v[by simp,by simp]
def YR(b:x∈XC++T')(a:t∈tlL):x++t∈wpL:=bx _ (dB.2 #v[t,a,au.2 #v[x,b,U]])
def UO(h:x∈rr l k):x∈wpL:=by
 rcases OC h with rfl|rfl|h
 .exact YR (bC _ (wL (PU l k))) (M9 l)
 .exact YR (bx _ (wL (PV l k))) (M9 l)
 .exact bC _ h
def tb:(tlL.all λt=>XC.all λx=>T'.all λy=>decide (x++t≠y++t)&&decide (x++t∉exL)&&decide (y++t∉exL))=γ:=by kernel_rfl
def tc:(tlL.all λt=>(aC 5).all λi=>(aC 5).all λj=>decide (i=j)||(decide (XC.getD i "" ++ t≠XC.getD j "" ++ t)&&decide (T'.getD i "" ++ t≠T'.getD j "" ++ t)))=γ:=by kernel_rfl
def un3(l:List Nat)(k a:Nat):clF l k≠laF l a/\clF l k∉exL/\laF l a∉exL:=by have h:=aH.1 (aH.1 (aH.1 tb _ (M9 l)) _ (wL (z:=("" : Str)) (PU l k))) _ (wL (z:=("" : Str)) (PV l a));simp only[aW,bK]at h;exact#v[h.1.1,h.1.2,h.2]
def ae0(l:List Nat)(k:Nat):(rr l k).Nodup:=by
 obtain⟨c,e,f⟩:=un3 l k k;have d:=YQ l k;have a:exF l k≠clF l k:=λz=>e (z▸d);have b:exF l k≠laF l k:=λz=>f (z▸d);unfold rr;split
 .have h:gd l 7 / (1+k) % 3<3:=aK _ (by decide);generalize gd l 7 / (1+k) % 3=p at h;rcases(by omega:p=0\/p=1\/p=2)with rfl|rfl|rfl<;>simp[lb,c,a,b,a.symm,b.symm]
 .simp[c]
def wqL:aB:="room" ::"me" ::"myself" ::wpL
def OD(h:x∈wqL):yO [.str x]=Z (.X γ):=Dj (aH.1 (show (wqL.all λx=>isT (yO [.str x]))=γ by kernel_rfl) x h)
def Dm{w:aB}(f:1<=w.length)(h:w.length<=4)(b:∀x∈w,x∈wqL)(d:w.Nodup):zZ [.a7 (w.map D.str)]=Z (.X γ):=by let a:bc:=[.I (.a7 (w.map D.str))];refine vJ (ρ:=a) U ?_;have e:yU zW zW az (c1 w5 aa) (cC CH) a=Z (.X γ,a):=F5 U (wt U (by show Z (D.int _)=_;rw[ae])) U (by omega) (by show (w.length:Int)<=4;omega);refine(xj (yD U (yL (we e)))).t (vS ((vR (zC D.str w U (by omega) λx c=>#v[_,_,U,vt U (OD (b x c)),U])).t (vt U (Ot d (by omega)))))
def OE(a b:aB)(c:b.length<=100):AC [.a7 (a.map D.str),.a7 (b.map D.str)]=Z (.X (b.all λx=>decide (x∈a))):=by refine vJ U (vS (wt (wj (xq D.str (λx=>.X (decide (x∈a))) b U (by omega) λx t=>#v[[.I (.str x),.I (.a7 (a.map D.str))],_,U,vw U U (AO δ x a),U])) (K5 b λx=>decide (x∈a))))
def ae1:((aC 25).all λs=>muL.all λm=>(aC 5).all λk=>(aC 5).all λj=>decide (k=j)||decide ((s+k * m) % 25≠(s+j * m) % 25))=γ:=by kernel_rfl
def acN(l:List Nat)(r:k<5)(p:j<5)(h:k≠j):AC [.a7 ((rr l j).map D.str),.a7 ((rr l k).map D.str)]=Z (.X δ):=by
 have t:MS l k≠MS l j:=by have q:=aH.1 (aH.1 (aH.1 (aH.1 ae1 (gd l 3 % 25) (bB.2 (aK _ (by decide)))) _ (wL (z:=0) (show gd l 4 % 8<muL.length from aK _ (by decide)))) k (bB.2 r)) j (bB.2 p);rw[ip,bK,bK,mQ,mQ]at q;exact q.resolve_left h
 have e:=UN l k;have d:=UN l j;have tcs:=λ{a b:Nat} (m:a<5) (o:b<5) (hab:a≠b)=>(by
  have q:=aH.1 (aH.1 (aH.1 tc _ (M9 l)) a (bB.2 m)) b (bB.2 o);simp only[ip,aW,bK]at q;exact q.resolve_left hab:XC.getD a "" ++ η l≠XC.getD b "" ++ η l/\T'.getD a "" ++ η l≠T'.getD b "" ++ η l)
 rw[OE _ _ (by have:=Lv l k;omega)];have key:∃x∈rr l k,x∉rr l j:=by
  by_cases c:MS l k % 5=MS l j % 5
  .have q:=(tcs (a:=MS l k / 5) (b:=MS l j / 5) (by omega) (by omega) (by omega)).2;refine#v[_,aeZ l k,λz=>?_];rcases OC z with z|z|z
   .exact(un3 l j k).1 z.symm
   .exact q z
   .exact(un3 l k k).2.2 z
  .have q:=(tcs (by omega) (by omega) c).1;refine#v[_,aeY l k,λz=>?_];rcases OC z with z|z|z
   .exact q z
   .exact(un3 l k j).1 z
   .exact(un3 l k k).2.1 z
 obtain⟨x,f,i⟩:=key;congr 2;exact jd.2 λz=>i (bh (aH.1 z x f))
def UP{L:aB}(h:(L.all λx=>decide (x.length<=60))=γ)(a:x∈L):x.length<=60:=bh (aH.1 h x a)
def Kk{a b:Str}(c:a.length<=20000)(d:b.length<=20000):DH (.str a) (.str b)=Z (.str (a++b)):=by show (if a.length+b.length<=100000 then Z (D.str (a++b))else O)=_;rw[aj (by omega)]
def acO(j:yB d i=Z h)(l:e d=Z (dN n,c))(m:f c=Z (y,a))(o:yB a i=Z b)(q:n<=b.length)(p:b.length<1000):O? i e f d=Z (.U,putAt a i (lb b n y)):=by unfold O?;rw[j];simp only[l,m,o];rw[aj #v[by omega,by rw[gr];exact q,p],gr]
def UQ{l:List Nat}(o:l.length=32)(m:k<5):Dc [dl l,dN k]=Z (.a7 ((rr l k).map D.str)):=by
 have d:=UP (by kernel_rfl) (M9 l);have e:=UP (by kernel_rfl) (wL (z:=("" : Str)) (PU l k));have j:=UP (by kernel_rfl) (wL (z:=("" : Str)) (PV l k));have f:c2 vZ (c2 wF (c2 b3 aa bw) (c2 ym ag (c2 b3 (cL (vO sN)) (c2 vZ (c2 b3 aa cq) dS)))) (cC (.int 25)) [.I (dl l),.I (dN k),.I (.a3 (XC.map D.str)),.I (.a3 (T'.map D.str)),.un,.un,.un]=Z (dN (MS l k),[.I (dl l),.I (dN k),.I (.a3 (XC.map D.str)),.I (.a3 (T'.map D.str)),.un,.un,.un]):=
  vw (vw (vw U U (zD (i:=3) (by omega))) (vw U (vw U (vw (vw U U (zD (i:=4) (by omega))) U (md (by decide))) (zD (l:=muL) (show gd l 4 % 8<8 from aK _ (by decide)))) (yu (.inl (B3 (by omega) (by omega))))) U) U (md (by decide))
 let A:Sl:=.I (.a3 (XC.map D.str));let B:Sl:=.I (.a3 (T'.map D.str));refine xV U (vC (z8 U (vC (z8 U (vC (vT (vy f (vC (vT (vy (vw U (vw (vw U U (zD (i:=5) (by omega))) U (md (by decide))) (DA (L:=tlL) (show gd l 5 % 3<3 from aK _ (by decide)))) ?_))))))))));refine vC (OA (vy (IG (vv (vw (vw U (vw U U (md (b:=5) (by decide))) (DA (PU l k))) U (Kk (b:=η l) (by omega) (by omega))) (vv (vw (vw U (vw U U (dv (b:=5) (by decide) (by decide))) (DA (PV l k))) U (Kk (b:=η l) (by omega) (by omega))) U)) (bG U)) ?_));have a:∀(i:Nat),i<l.length->∀c:Sl,c2 vZ (c2 wY (c2 b3 aa (cC (dN i))) (c2 wF az ag)) bw [.I (dl l),.I (dN k),A,B,.I (dN (MS l k)),.I (.str (η l)),c]=Z (dN (gd l i / (1+k) % 3),[.I (dl l),.I (dN k),A,B,.I (dN (MS l k)),.I (.str (η l)),c]):=λi h c=>vw (vw (y:=dN (1+k)) (vw U U (zD h)) U (dv (by omega) (by omega))) U (md (by decide));refine vC (Ls (vy (we (vw (a 6 (by omega) _) U (xW δ _ 0))) #v[λb=>?_,λb=>?_]))
 .have b:gd l 6 / (1+k) % 3=0:=by have:=bh b;omega
  refine D5 (vy (acO U (a 7 (by omega) _) (vw U (a 8 (by omega) _) (DA (L:=exL) (show _ % 3<3 from aK _ (by decide)))) U (show _<=2 by omega) (gn (aI 2) (by decide))) (wy (vy U ?_)))
  .show D.a7 _=_;unfold rr;rw[aj b];unfold lb;rw[aX,aV,fU,fT];rfl
 .have b:gd l 6 / (1+k) % 3≠0:=λz=>by have:=of_decide_eq_false b;omega
  refine z8 U (wy (vy U ?_));unfold rr;rw[ak b];rfl
def Me(x:Str):Th:=#v[x,["room"],.room,O]
def Th.nw(t:Th):Str×aB:=(t.n,t.w)
def k?(t:Th):L4.D:=.a7 [.str t.n,.a7 (t.w.map D.str),.str t.k.s,oS t.s]
def kL:List Kd:=[.plain,.box,.lamp,.fixed,.box]
def nA(N:aB)(i:Nat):Str:=N.getD i ""
structure Lw(l:List Nat)(N:aB)(T:List Th):Prop where
 ij:Ord T
 ex:∃(r n:Nat) (y:Str) (P:List Th),1<=r/\r<=3/\n<=5/\T=(N.take r).map Me++#v[nA N 3,["me", "myself"],.you,Z y]::P/\P.map Th.nw=(aC n).map (λk=>(nA N (4+k),rr l k))/\∀t∈P,t.k.pl=γ
theorem Kl:∀(l:aB) (B:List Th),Ord B->Ord (B++l.map Me)
 |[],B,h=>by rw[eA,cf];exact h
 |x::l,B,h=>by rw[aV,List.append_cons];exact Kl l _ (h.snoc (.inl #v[U,U]))
def XG{a:Type}{L:List a}(f:a->L4.D){i:Nat}(z:a)(h:i<L.length):b3 (.a3 (L.map f)) (dN i)=Z (f (L.getD i z)):=yy (by
 rw[bg,aO h,bQ,aO h];rfl)
def kdD(k:Kd):L4.D:=.str k.s
def XH{N:aB}(h:i<N.length):b3 (.a3 (N.map D.str)) (dN i)=Z (.str (nA N i)):=DA h
def RA{l:List Nat}(hl:l.length=32)(hN:Nms N):∃T j,Lw l N T/\zR [dl l,.a3 (N.map D.str)]=Z (.a3 ((T.drop j++T.take j).map k?)):=by
 suffices h:∃d,zR [dl l,.a3 (N.map D.str)]=Z d/\∃T j,Lw l N T/\d=.a3 ((T.drop j++T.take j).map k?) by obtain⟨_,e,T,j,h,rfl⟩:=h;exact#v[T,j,h,e]
 have l14:=hN.len;let r:=1+gd l 9 % 3;have r3:r<=3:=by have:=aK (gd l 9) (show 0<3 by decide);show 1+_<=3;omega
 have r1:1<=r:=by show 1<=1+_;omega
 let R:=N.take r;have lR:R.length=r:=by show (N.take r).length=r;rw[cv];omega
 let f:=nA N 3;let y:=R.getD (gd l 10 % R.length) "";have yi:gd l 10 % R.length<R.length:=aK _ (by omega);have M:y∈R:=wL yi;let w:Th:=#v[f,["me", "myself"],.you,Z y];let a:=R.map Me++[w];have o1:Ord a:=(by have:=Kl R [] .nil;rw[cD]at this;exact this:Ord (R.map Me)).snoc (.inr (.inl #v[U,Me y,b8 M,U,U]));have lP:a.length=r+1:=by show (R.map Me++[w]).length=_;rw[aA,ae,lR];rfl
 let A:Sl:=.I (dl l);let B:Sl:=.I (.a3 (N.map D.str));let C:Sl:=.I (.a3 (R.map D.str));refine Gb U (vC (vT (w_L (w_sx (vy U #v[N.map D.str,U,vy U (w_oA (vy (vw U (vw (vw U U (zD (i:=9) (by omega))) U (md (by decide))) U) #v[_,U,?_]))])))));rw[show (1+((gd l 9 % 3:Nat):Int))=((r:Nat):Int) from U,Uv r (by rw[ae];omega),<- fU];refine vC (vT (vy (vw U U (XH (i:=3) (by omega))) ?_));refine vC (OA (vy (xq D.str (λx=>k? (Me x)) R U (by omega) λx s=>#v[_,_,U,U,U]) ?_));refine vC (vT (vy (vw U (vw (vw U U (zD (i:=10) (by omega))) (wt U (by show Z (D.int (c4 D.str R).length)=_;rw[ae])) (md (by omega))) (DA yi)) ?_));refine vC (D5 (vy (za U (xu U (bG U)) U (by rw[ae];omega)) ?_));refine vC (OA (vy (xw U U (by rw[ae];show R.length+4<=1000;omega)) ?_));refine X? (R:=λQ=>Q=[A,B,C,.I (.str f),.Y (a.map k?),.I (.str y),.Y ((R++[f,y,y,f]).map D.str),.un,.un,.un]) ?_ ?_
 .rw[show a.map k?=(R.map λx=>k? (Me x))++[k? w] by show (R.map Me++[w]).map k?=_;rw[aX,aY];rfl,aX];rfl
 rintro _ rfl;let J:=λ(i:Nat) (Q:bc)=>∃P c G q,Q=[A,B,C,.I (.str f),.Y (c4 k? (a++P)),.I (.str y),.Y (c4 D.str c),G,q,.un]/\Ord (a++P)/\P.map Th.nw=(aC i).map (λk=>(nA N (4+k),rr l k))/\(∀t∈P,t.k.pl=γ)/\c≠[]/\c.length<=7+i/\∀x∈c,∃u∈a++P,u.n=x/\u.k.hd=γ;refine vC (BU (Ry (vy (vw (vw U U (zD (i:=11) (by omega))) U (md (by decide))) #v[gd l 11 % 6,U,by omega,J,#v[[],R++[f,y,y,f],_,_,by rw[cf],by rw[cf];exact o1,U,λt ht=>(by cases ht),by simp,by rw[aA,lR];show r+4<=7;omega,?_],?_,?_])))
 .rw[cf];have X:∃u∈a,u.n=f/\u.k.hd=γ:=#v[w,bx _ (bu.2 U),U,U];have I:∀x∈R,∃u∈a,u.n=x/\u.k.hd=γ:=λx m=>#v[Me x,bC _ (b8 m),U,U];intro x m;rcases aZ.1 m with m|m
  .exact I x m
  .simp only[aM,cg,or_false]at m;rcases m with rfl|rfl|rfl|rfl
   .exact X
   .exact I _ M
   .exact I _ M
   .exact X
 .rintro i _ _ hd ⟨P,c,G,q,rfl,o,eP,pl,H,lH,hH⟩;obtain⟨hi,rfl⟩:=D6 hd;have lP':=by have:=bE cP eP;rw[ae,ae,bL]at this;exact this
  let F:=kL.getD (gd l (12+i) % 5) .plain;have Y:gd l (12+i) % 5<kL.length:=aK _ (by decide);have hkd:F∈kL:=wL Y;have hpl:=(show ∀k∈kL,Kd.pl k=γ by decide) _ hkd;have z:=pG.2 H;let p:=c.getD (gd l (12+i) / 5 % c.length) "";have pi:gd l (12+i) / 5 % c.length<c.length:=aK _ z;have hp:p∈c:=wL pi;obtain⟨u,hu,hun,huk⟩:=hH p hp;let t:Th:=#v[nA N (4+i),rr l i,F,Z p];have o':Ord (a++(P++[t])):=by rw[<-b9];exact o.snoc (.inr (.inr #v[hpl,u,hu,by rw[hun],huk]))
  have S:(P++[t]).map Th.nw=(aC (i+1)).map λk=>(nA N (4+k),rr l k):=by rw[aX,eP,j9,aX];rfl
  have eT:(a++P).map k?++[k? t]=(a++(P++[t])).map k?:=by rw[<-b9,aX (l₂:=[t])];rfl
  have hH':∀x∈c,∃u∈a++(P++[t]),u.n=x/\u.k.hd=γ:=λx m=>by obtain⟨v,hv,h⟩:=hH x m;exact#v[v,by rw[<-b9];exact bC _ hv,h]
  have W:∀(s4 s6 q:Sl),c2 b3 aa (c2 wF kO bP) [A,B,C,.I (.str f),s4,.I (.str y),s6,.I (dN i),q,.un]=Z (dN (gd l (12+i)),[A,B,C,.I (.str f),s4,.I (.str y),s6,.I (dN i),q,.un]):=λs s s=>vw (y:=dN (12+i)) U U (zD (by omega));refine#v[_,U,vC (vT (vy (vw U (vw (W _ _ _) U (md (by decide))) (XG kdD .plain Y)) ?_))];refine vC (D5 (vy (za U (xu (vv (vw (y:=dN (4+i)) U U (XH (by omega))) (vv (vt U (UQ hl (by omega))) (vv U (vv (N4 (vw U (vw (vw (W _ _ _) U (dv (by decide) (by decide))) (wt U (by show Z (D.int (c.map D.str).length)=_;rw[ae])) (md z)) (DA pi)) U) U)))) (bG U)) U (by rw[ae,aA];omega)) ?_));refine Ls (vy (we (vw U U (F3 F .box))) #v[λb=>D5 (vy (za U (vw (y:=dN (4+i)) U U (XH (by omega))) U (by rw[ae];omega)) #v[P++[t],c++[nA N (4+i)],_,_,by rw[<-eT,aX (l₂:=[nA N (4+i)])];rfl,o',S,snoc pl hpl,by simp,by rw[aA];show _+1<=_;omega,snoc hH' #v[t,by simp,U,?_]]),λs=>z8 U #v[P++[t],c,_,_,by rw[<-eT];rfl,o',S,snoc pl hpl,H,by omega,hH']]);show F.hd=γ;rw[bh b];rfl
 .rintro _ ⟨P,c,G,q,rfl,o,eP,pl,H,lH,hH⟩;rw[ae,bL]at eP;have lT:(a++P).length=r+1+gd l 11 % 6:=by have:=bE cP eP;rw[ae,ae,bL]at this;rw[aA,lP,this]
  let j:=gd l 18 % (a++P).length;have hj:j<(a++P).length:=aK _ (by omega);let σ:=[A,B,C,.I (.str f),.I (.a3 (c4 k? (a++P))),.I (.str y),.Y (c4 D.str c),G,q,.I (dN j)];refine vC (vT (vy (N4 (vw (vw U U (zD (i:=18) (by omega))) (wt U (by show Z (D.int _)=_;rw[ae])) (md (by omega))) U) (OB (vy (b:=σ) (xw (xs:=((a++P).map k?).drop j) (ys:=((a++P).map k?).take j) (ρ1:=σ) (wj ?_) (wj ?_) ?_) ?_))))
  .show Z (fb ((a++P).map k?) (Z (j:Int)) O,_)=_;rw[acA j (by rw[ae];omega)];rfl
  .show Z (fb ((a++P).map k?) O (Z (j:Int)),_)=_;rw[Uv j (by rw[ae];omega)]
  .rw[c8,cv,ae];omega
  .rw[<-fT,<- fU,<- aX];exact#v[a++P,j,#v[o,r,gd l 11 % 6,y,P,r1,r3,by omega,by show (R.map Me++[w])++P=_;rw[b9];rfl,eP,pl],U]
def mkS(m:Mk):L4.D:=.a7 [.str m.n,.int m.st,.int m.mo]
def pD(q:Str×Int):L4.D:=.a7 [.str q.1,.int q.2]
def UR{l:List Nat}(z:l.length=32)(hN:Nms N):∃(M:List Mk) (q:Nat),q<=2/\M.map Mk.n=(aC q).map (λk=>nA N (10+k))/\(∀m∈M,m.ok)/\As [dl l,.a3 (N.map D.str)]=Z (.a3 (M.map mkS)):=by
 suffices h:∃d,As [dl l,.a3 (N.map D.str)]=Z d/\∃(M:List Mk) (q:Nat),q<=2/\M.map Mk.n=(aC q).map (λk=>nA N (10+k))/\(∀m∈M,m.ok)/\d=.a3 (M.map mkS) by obtain⟨_,e,M,q,o,p,r,rfl⟩:=h;exact#v[M,q,o,p,r,e]
 have u:=hN.len;let A:Sl:=.I (dl l);let B:Sl:=.I (.a3 (N.map D.str));let J:=λ(i:Nat) (w:bc)=>∃(M:List Mk) (c a:Sl),w=[A,B,.Y (c4 mkS M),c,a]/\M.map Mk.n=(aC i).map (λk=>nA N (10+k))/\∀m∈M,m.ok;refine Gb U (vC (z8 U (vC (BU (Ry (vy (vw (vw U U (zD (i:=19) (by omega))) U (md (by decide))) #v[gd l 19 % 3,U,by omega,J,#v[[],_,_,U,U,λm t=>(by cases t)],?_,?_]))))))
 .rintro i _ _ hd ⟨M,c,a,rfl,eM,ok⟩;obtain⟨x,rfl⟩:=D6 hd;have lM:=by have:=bE cP eM;rw[ae,ae,bL]at this;exact this
  let b:=1+gd l (20+i) % 3;let st:=gd l (20+i) / 3 % (b+1);have C:st<b+1:=aK _ (by omega);let m:Mk:=#v[nA N (10+i),(st:Nat),(b:Nat)];have f:∀(j a:Sl),c2 b3 aa (c2 wF (cC (.int 20)) ay) [A,B,j,.I (dN i),a]=Z (dN (gd l (20+i)),[A,B,j,.I (dN i),a]):=λs s=>vw (y:=dN (20+i)) U U (zD (by omega));refine#v[_,U,vC (vT (vy (vw U (vw (f _ _) U (md (by decide))) U) (D5 (vy (za U (xu (vv (vw (y:=dN (10+i)) U U (XH (by omega))) (vv (vw (y:=dN (b+1)) (vw (f _ _) U (dv (by decide) (by decide))) U (md (by omega))) U)) (bG U)) U (by rw[ae];omega)) #v[M++[m],_,_,by rw[aX];rfl,by rw[aX,eM,j9,aX];rfl,snoc ok #v[?_,?_,?_,?_]]))))]
  .show 1<=((1+gd l (20+i) % 3:Nat):Int);omega
  .show ((1+gd l (20+i) % 3:Nat):Int)<=3;omega
  .show (0:Int)<=(st:Nat);omega
  .show ((st:Nat):Int)<=(b:Nat);omega
 .rintro _ ⟨M,c,a,rfl,eM,ok⟩;rw[ae,bL]at eM;exact OB (vy U #v[M,gd l 19 % 3,by omega,eM,ok,U])
def kt(t:Th)(c:Kd)(h:cV 0 a=Z (k? t,a)):cT (c2 (cb δ) (c2 b3 aa bI) (cC (.str c.s))) a=Z (decide (t.k=c),a):=we (vw (vw h U U) U (F3 t.k c))
def of_eq(T:List Th)(a:T.length<=1000)(hi:cV i ρ=Z (.a3 (T.map k?),ρ))(c:Kd):vE 1 [] (iL (cV i)) (gN 0) (cT (c2 (cb δ) (c2 b3 aa bI) (cC (.str c.s)))) (c2 b3 aa av) ρ=Z (((T.filter λt=>decide (t.k=c)).map Th.n).map D.str,ρ):=by refine(xx k? (λt=>.str t.n) (λt=>decide (t.k=c)) T (Ux hi) a λt h=>#v[[.I (k? t)],_,U,kt t c U,λh=>#v[_,U,U],λh=>U]).t ?_;rw[aY];rfl
def Lx(T:List Th)(M:List Mk)(hT:T.length<=100)(hM:M.length<=100):zO [.a3 (T.map k?),.a3 (M.map mkS)]=Z (.a3 ((mP T M).map pD)):=by
 have h:=cy (λt:Th=>t.k.mk) T;refine(BF U ((vz (wV (wj (xx k? (λt=>pD (t.n,1)) (λt=>t.k.mk) T U (by omega) λt f=>#v[[.I (k? t)],[.I (k? t)],U,?_,λf=>#v[_,U,U],λf=>U])))).t (xF (xw U (wj (xq mkS (λm=>pD (m.n,m.mo)) M U (by omega) λm f=>#v[_,_,U,U,U])) (by rw[ae,ae];omega))))).t ?_
 .obtain⟨n,w,k,s⟩:=t;cases k<;>kernel_rfl
 .unfold mP;rw[aX,aY,aY];rfl
def mu(v:Vb):L4.D:=.a7 [.str v.n,.a7 (v.o.map D.str),.str v.f,oS v.j]
def bM(a b c d e f:Bool):Nat:=a.toNat+2 * b.toNat+4 * c.toNat+8 * d.toNat+16 * e.toNat+32 * f.toNat
def ae2:∀a b c d e f:Bool,bM a b c d e f<64/\vB (bM a b c d e f) 0=a/\vB (bM a b c d e f) 1=b/\vB (bM a b c d e f) 2=c/\vB (bM a b c d e f) 3=d/\vB (bM a b c d e f) 4=e/\vB (bM a b c d e f) 5=f:=by decide
def mask(p:Nat->Bool):∃m,m<64/\(aC 6).filter p=(aC 6).filter λk=>vB m k:=by
 obtain⟨h,a,b,c,d,e,f⟩:=ae2 (p 0) (p 1) (p 2) (p 3) (p 4) (p 5);refine#v[_,h,ql λk i=>?_];have:=bB.1 i;rcases(by omega:k=0\/k=1\/k=2\/k=3\/k=4\/k=5)with rfl|rfl|rfl|rfl|rfl|rfl
 .exact a.symm
 .exact b.symm
 .exact c.symm
 .exact d.symm
 .exact e.symm
 .exact f.symm
def v0:Vb:=#v["", [],"", O]
def US{l:List Nat}(f:l.length=32):∃m,m<64/\Dg [dl l]=Z (.a3 ((vL m).map mu)):=by
 let p:=λk=>decide (ka (((gd l 28:Nat):Int) / 2 ^ ((k:Nat):Int).toNat) 1=1);obtain⟨m,b,e⟩:=mask p;refine#v[m,b,?_];let d:bc:=[.I (dl l),.I (.a3 (v6.map mu))];refine(BF U ((vz U).t ((vz U).t (xF (xx (λk:Nat=>dN k) (λk=>mu (v6.getD k v0)) p (aC 6) (ρ1:=d) (by kernel_rfl) (by rw[bL];decide) λk a=>#v[[.I (dN k),.I (.a3 (v6.map mu)),.I (dl l)],_,U,we (vw (vw (x:=.int (((gd l 28:Nat):Int) / 2 ^ ((k:Nat):Int).toNat)) (vw (vw U U (zD (i:=28) (by omega))) U ?_) U U) U (xW δ _ 1)),λs=>#v[_,vw U U (XG mu v0 (show k<6 from bB.1 a)),U],λs=>U]))))).t ?_
 .show (if decide (0<=((k:Nat):Int))=γ then Z (D.int _)else O)=_;rw[aj (aS (by omega))]
 .unfold vL;rw[e,aY];rfl
def ae3(a b c d:Str):cb δ (.a7 [.str a,.str b]) (.a7 [.str c,.str d])=Z (.X ((a==c)&&((b==d)&&γ))):=by kernel_rfl
def drL(T:List Th)(M:List Mk):List (Option Str):=O::O::(mP T M).map λq=>Z q.1
def XI{l:List Nat}(hl:l.length=32)(T:List Th)(M:List Mk)(hT:T.length<=13)(hM:M.length<=4)(hr:gk T≠[]):∃W:List Wy,W.length<=4/\(∀x∈W,M5 T M x)/\(W.map λw=>[w.r,w.w]).Nodup/\BA [dl l,.a3 ((gk T).map D.str),.a3 ((mP T M).map pD)]=Z (.a3 (W.map l?)):=by
 suffices h:∃d,BA [dl l,.a3 ((gk T).map D.str),.a3 ((mP T M).map pD)]=Z d/\∃W:List Wy,W.length<=4/\(∀x∈W,M5 T M x)/\(W.map λw=>[w.r,w.w]).Nodup/\d=.a3 (W.map l?) by obtain⟨_,e,W,o,h2,h3,rfl⟩:=h;exact#v[W,o,h2,h3,e]
 let R:=gk T;have f:=pG.2 hr;have lm:(mP T M).length<=20:=by unfold mP;rw[aA,ae,ae];have:=cy (λt:Th=>t.k.mk) T;omega
 let A:Sl:=.I (dl l);let B:Sl:=.I (.a3 (R.map D.str));let C:Sl:=.I (.a3 ((mP T M).map pD));let E:Sl:=.I (.a3 (υ.map D.str));let J:=λ(i:Nat) (b:bc)=>∃(W:List Wy) (G H I N P a:Sl),b=[A,B,C,E,.Y (c4 l? W),G,H,I,N,P,a]/\W.length<=i/\(∀x∈W,M5 T M x)/\(W.map λw=>[w.r,w.w]).Nodup;refine Gb U (vC (z8 U (vC (z8 U (vC (BU (Ry (vy (vw (vw U U (zD (i:=22) (by omega))) U (md (by decide))) #v[gd l 22 % 5,U,by omega,J,#v[[],_,_,_,_,_,_,U,aI _,λw F=>(by cases F),.nil],?_,?_]))))))))
 .rintro i _ _ hd ⟨W,G,H,I,N,P,a,rfl,lW,ok,u⟩;obtain⟨hi,rfl⟩:=D6 hd;let z:=gd l (23+i);let r:=R.getD (z % R.length) "";let x:=υ.getD (z / 3 % 5) "";let g:=R.getD (z / 15 % R.length) "";let X:=z / 45 % (2+(mP T M).length);let m:=(drL T M).getD X O;have ld:(drL T M).length=2+(mP T M).length:=by unfold drL;rw[aU,aU,ae];omega
  have hmi:X<(drL T M).length:=by rw[ld];exact aK _ (by omega)
  have j:m∈drL T M:=wL hmi;have lenR:∀b:bc,cV 1 b=Z (.a3 (R.map D.str),b)->c1 w5 ag b=Z (dN R.length,b):=λb h=>wt h (by show Z (D.int (R.map D.str).length)=_;rw[ae]);refine#v[_,U,vC (vT (vy (vw (y:=dN (23+i)) U U (zD (by omega))) ?_))];refine vC (Lu (vy (xu (vv (vw U (vw U (lenR _ U) (md f)) (DA (aK _ f))) (vv (vw U (vw (vw U U (dv (by decide) (by decide))) U (md (by decide))) (DA (show _ % 5<5 from aK _ (by decide)))) (vv (vw U (vw (vw U U (dv (by decide) (by decide))) (lenR _ U) (md f)) (DA (aK _ f))) U))) (bG U)) #v[_,U,?_]));let Y:=[A,B,C,E,.Y (W.map l?),.I (dN i),.I (dN z),.I (.str r),.I (.str x),.I (.str g),a];refine X? U ?_;rintro _ rfl;have em:cL (xt (cL (vO iQ)) (cL (vE 1 [] (iL ah) (gN 0) wH (c2 b3 aa av)))) Y=Z (.a3 ((drL T M).map oS),Y):=(wj (xw U (wj (xq pD (λq=>.str q.1) (mP T M) U (by omega) λq s=>#v[_,_,U,U,U])) (by rw[ae];show 2+_<=1000;omega))).t (by unfold drL;rw[aV,aV,aY];rfl);refine vC (vT (vy (vw em (vw (y:=dN (2+(mP T M).length)) (vw U U (dv (by decide) (by decide))) (vw U (wt U (by show Z (D.int ((mP T M).map pD).length)=_;rw[ae])) U) (md (by omega))) (XG oS O hmi)) ?_));let p:Wy->Bool:=λw=>(w.r==r)&&((w.w==x)&&γ);have ec:G4 (cT (c2 p' (cL (vE 1 [7,8] (iL aG) (gN 0) (cT (c2 (cb δ) (K9 aa O (Z 2)) (vQ cw))) aa)) (cL (vO vP)))) [A,B,C,E,.Y (W.map l?),.I (dN i),.I (dN z),.I (.str r),.I (.str x),.I (.str g),.I (oS m)]=Z ((W.filter p).isEmpty,[A,B,C,E,.Y (W.map l?),.I (dN i),.I (dN z),.I (.str r),.I (.str x),.I (.str g),.I (oS m)]):=by refine Pd (we (vw (wj (xx l? l? p W U (by omega) λw s=>#v[[.I (l? w),.I (.str r),.I (.str x)],_,U,we (vw U U (ae3 w.r w.w r x)),λs=>#v[_,U,U],λs=>U])) U ?_));cases W.filter p<;>rfl
  refine Ls (vy ec #v[λc=>D5 (vy (za U U U (by rw[ae];omega)) #v[W++[#v[r,x,g,m]],_,_,_,_,_,_,by rw[aX];rfl,by rw[aA];exact j6 lW,snoc ok #v[wL (aK _ f),wL (show _ % 5<5 from aK _ (by decide)),wL (aK _ f),λy e=>?_],?_]),λs=>z8 U #v[W,_,_,_,_,_,_,U,by omega,ok,u]])
  .have j:Z y∈drL T M:=by rw[<-e];exact j
   have j:Z y∈(mP T M).map λq=>Z q.1:=by simpa [drL]using j
   obtain⟨q,hq,e⟩:=au.1 j;cases e;rw[<-Lp];exact b8 hq
  .rw[aX,cu];refine#v[u,by simp,λy Q z' S e=>?_];rw[aV,eA,bu]at S;rw[e,S]at Q;obtain⟨w,F,e2⟩:=au.1 Q;have o:=by simpa using e2
   have:w∈W.filter p:=aQ.2 #v[F,by show ((w.r==r)&&((w.w==x)&&γ))=γ;rw[o.1,o.2];simp];rw[List.isEmpty_iff.1 c]at this;cases this
 .rintro _ ⟨W,G,H,I,N,P,a,rfl,lW,ok,u⟩;rw[ae,bL]at lW;exact OB (vy U #v[W,by omega,ok,u,U])
def Km{a:Type}(l:List a)(j:Nat):(l.drop j++l.take j).Perm l:=(List.perm_append_comm).t (by rw[lC])
def UT{T:List Th}(p:T.Perm T0)(h:M3 T0 t):F6 T t:=by
 have i:∀u∈T0,u.k=.room->u.n∈gk T:=λu a f=>b8 (aQ.2 #v[p.mem_iff.2 a,aS f]);have e:∀u∈T0,u.k.hd=γ->u.n∈n? T:=λu a f=>b8 (aQ.2 #v[p.mem_iff.2 a,f]);obtain⟨n,w,k,s⟩:=t;rcases h with ⟨b,c⟩|⟨b,u,a,c,d⟩|⟨b,u,a,c,d⟩
 .simp only at b c;subst b c;exact trivial
 .simp only at b c;subst b c;exact i u a d
 .simp only at b c;subst c;cases k with
  |room=>cases b
  |you=>cases b
  |plain=>exact e u a d
  |fixed=>exact e u a d
  |box=>exact e u a d
  |lamp=>exact e u a d
def acP{P:Kd->Prop}(a:P .room)(b:P .you)(c:P .plain)(d:P .fixed)(e:P .box)(f:P .lamp):∀k,P k:=λk=>by cases k<;>assumption
theorem seg{N:aB}(a:Nat):∀n,a+n<=N.length->(aC n).map (λk=>nA N (a+k))=(N.drop a).take n
 |0,_=>by simp
 |n+1,h=>by rw[j9,aX,seg a n (by omega),gu,eZ,aO (by omega)];unfold nA;rw[aV,eA,bQ,aO (by omega)];rfl
def big{N:aB}(h:N.length=14)(f:r<=3)(c:n<=5)(d:q<=2):((N.take r++nA N 3::(aC n).map λk=>nA N (4+k))++(aC q).map λk=>nA N (10+k)).Sublist N:=by
 rw[seg 4 n (by omega),seg 10 q (by omega),b9];have e:N.take 3++(nA N 3::((N.drop 4).take 6++N.drop 10))=N:=by
  have a:=by have:=lC 6 (N.drop 4);rw[List.drop_drop]at this;exact this
  rw[a];have b:N.drop 3=nA N 3::N.drop 4:=by rw[iR (by omega:3<N.length)];unfold nA;rw[bQ,aO (by omega)];rfl
  rw[<-b,lC]
 have s:(N.take r++(nA N 3::((N.drop 4).take n++(N.drop 10).take q))).Sublist (N.take 3++(nA N 3::((N.drop 4).take 6++N.drop 10))):=
  (ox (by omega)).append (.cons₂ _ ((ox (by omega)).append (jT _ _)))
 rw[e]at s;exact s
def PX{M:List Mk}{Q:aB}{W:List Wy}(hN:Nms N)(d:Lw l N T0)(j:Nat)(F:q<=2)(eM:M.map Mk.n=(aC q).map λk=>nA N (10+k))(mo:∀m∈M,m.ok)(hd:Q.Sublist (gk (T0.drop j++T0.take j)))(w4:W.length<=4)(wo:∀w∈W,M5 (T0.drop j++T0.take j) M w)(wn:(W.map λw=>[w.r,w.w]).Nodup):
  ea (T0.drop j++T0.take j) M Q W/\(T0.drop j++T0.take j).length<=9/\M.length<=2/\(gk (T0.drop j++T0.take j)).length<=3:=by
 have p:=Km T0 j;obtain⟨r,n,y,P,r1,r3,hn,B,eP,hP⟩:=d.ex;have H:=hN.len;let R:=(N.take r).map Me;let I:Th:=#v[nA N 3,["me", "myself"],.you,Z y];have lR:=by show ((N.take r).map Me).length=r;rw[ae,cv];omega
 have lP:=by have:=bE cP eP;rw[ae,ae,bL]at this;exact this
 have lM:=by have:=bE cP eM;rw[ae,ae,bL]at this;exact this
 have A:∀t∈R,t.k=.room:=λt h=>by obtain⟨x,_,rfl⟩:=au.1 h;rfl
 have vj:∀p:Th->Bool,T0.filter p=R.filter p++((if p I=γ then [I]else [])++P.filter p):=λp=>by rw[B,mh,gx];split<;>rfl
 have all_:∀(p:Kd->Bool) (L:List Th),(∀t∈L,p t.k=γ)->L.filter (λt=>p t.k)=L:=λp L h=>pF.2 h;have non_:∀(p:Kd->Bool) (L:List Th),(∀t∈L,p t.k=δ)->L.filter (λt=>p t.k)=[]:=λp L h=>i4.2 λt a z=>by rw[h t a]at z;cases z
 have plk:∀k:Kd,k.pl=γ->decide (k=.room)=δ/\decide (k=.you)=δ:=acP (λz=>by cases z) (λz=>by cases z) (λs=>#v[U,U]) (λs=>#v[U,U]) (λs=>#v[U,U]) (λs=>#v[U,U]);have fr:T0.filter (λt=>decide (t.k=.room))=R:=by rw[vj,all_ (λk=>decide (k=.room)) R λt h=>by rw[A t h];rfl,non_ (λk=>decide (k=.room)) P λt h=>(plk t.k (hP t h)).1];exact cf R
 have fy:T0.filter (λt=>decide (t.k=.you))=[I]:=by rw[vj,non_ (λk=>decide (k=.you)) R λt h=>by rw[A t h];rfl,non_ (λk=>decide (k=.you)) P λt h=>(plk t.k (hP t h)).2];rfl
 have S:T0.filter (λt=>t.k.pl)=P:=by rw[vj,non_ Kd.pl R λt h=>by rw[A t h];rfl,all_ Kd.pl P hP];rfl
 have eN:T0.map Th.n=N.take r++nA N 3::(aC n).map λk=>nA N (4+k):=by
  rw[B,aX,aV];have c:((N.take r).map Me).map Th.n=N.take r:=by rw[aY];exact iI _
  have f:P.map Th.n=(aC n).map λk=>nA N (4+k):=by have:=bE (c4 cp) eP;rw[aY,aY]at this;exact this
  rw[c,f]
 have sub:(T0.map Th.n++M.map Mk.n).Sublist N:=by rw[eN,eM];exact big H r3 hn F
 have pN:((T0.drop j++T0.take j).map Th.n++M.map Mk.n).Perm (T0.map Th.n++M.map Mk.n):=(p.map _).append_right _;have o:=(cu.1 (hN.nd.sublist sub)).1;have wP:∀t∈P,∃k,k<5/\t.n=nA N (4+k)/\t.w=rr l k:=λt h=>by have C:t.nw∈P.map Th.nw:=b8 h;rw[eP]at C;obtain⟨k,E,e⟩:=au.1 C;have T:=e;injection T with c f;exact#v[k,by have:=bB.1 E;omega,c.symm,f.symm]
 have wT:=λt a E=>by
  have:t∈T0.filter (λt=>t.k.pl):=aQ.2 #v[p.mem_iff.1 a,E]
  rwa [S]at this
 have lT:(T0.drop j++T0.take j).length=r+1+n:=by rw[p.length_eq,B,aA,aU,lP];show R.length+_=_;rw[lR];omega
 have lr:(gk (T0.drop j++T0.take j)).length=r:=by unfold gk;rw[ae,(p.filter _).length_eq,fr,lR]
 have y1:((T0.drop j++T0.take j).filter λt=>decide (t.k=.you)).map Th.n=[nA N 3]:=by have:=p.filter λt=>decide (t.k=.you);rw[fy]at this;rw[pH.1 this];rfl
 refine#v[?_,by omega,by omega,by omega];constructor
 .omega
 .rw[(p.filter _).length_eq,fr,lR];exact r1
 .rw[(p.filter _).length_eq,fr,lR];omega
 .unfold yN;rw[y1];rfl
 .rw[(p.filter _).length_eq,S,lP];omega
 .omega
 .exact mo
 .exact λx b=>hN.nm x (sub.subset (pN.mem_iff.1 b))
 .exact pN.nodup_iff.2 (hN.nd.sublist sub)
 .exact λt a=>UT p (d.ij.all t (p.mem_iff.1 a))
 .obtain⟨A,h⟩:=d.ij.rank o;refine#v[A,λt a=>?_];obtain⟨C,h2⟩:=h t (p.mem_iff.1 a);refine#v[by rw[p.length_eq];exact C,λq F=>?_];obtain⟨h3,u,G,e⟩:=h2 q F;exact#v[h3,u,p.mem_iff.2 G,e]
 .intro t a;have h:=p.mem_iff.1 a;rw[B]at h;rcases aZ.1 h with h|h
  .obtain⟨x,b,rfl⟩:=au.1 h;exact Dm (w:=["room"]) (by decide) (by decide) (by decide +kernel) (by decide)
  .rcases aM.1 h with rfl|h
   .exact Dm (w:=["me", "myself"]) (by decide) (by decide) (by decide +kernel) (by decide +kernel)
   .obtain⟨k,_,_,e⟩:=wP t h;rw[e];have:=Lv l k;exact Dm (by omega) (by omega) (λx b=>a9 _ (a9 _ (a9 _ (UO b)))) (ae0 l k)
 .intro t a u G J uk hne;obtain⟨k,k5,c,f⟩:=wP t (wT t a J);obtain⟨i,i5,X,Y⟩:=wP u (wT u G uk);unfold PJ;rw[f,Y];exact acN l k5 i5 λz=>hne (by rw[c,X,z])
 .intro t a J;obtain⟨k,_,_,e⟩:=wP t (wT t a J);rw[e];exact#v[(Lv l k).2,λx b=>UO b]
 .have:=hd.length_le;omega
 .refine hd.nodup ?_;exact(lY.map _).nodup ((p.map _).nodup_iff.2 o)
 .exact λx b=>hd.subset b
 .omega
 .exact wo
 .exact wn
def cd(x:Str):List Nat:=x.cps.toList
def BV(x y:Str):cd (x++y)=cd x++cd y:=by show (x.cps++y.cps).toList=_;exact Array.toList_append
def UU(h:cd x=cd y):x=y:=uB h
def yT(x:Str):x.length=(cd x).length:=rfl
def fl(l:aB):List Nat:=(l.map λp=>32::cd p).flatten
abbrev jn(l:aB):Str:=Txt.join " " l
theorem Ck:∀l:aB,B5 (l.map D.str)=Z l
 |[]=>rfl
 |x::l=>by rw[aV];unfold B5;rw[Ck l]
inductive Tst where
 |at (a b:Str)|has (a:Str)|seen (a:Str)|mark (a:Str) (v:Int)|kind (a k:Str)|word (w:Str)|lit|no (s:Tst)|bo (s t:Tst)
def A4:Tst->L4.D
 |.at a b=>.a7 [.str "at", .str a,.str b]
 |.has a=>.a7 [.str "has", .str a]
 |.seen a=>.a7 [.str "seen", .str a]
 |.mark a v=>.a7 [.str "marked", .str a,.int v]
 |.kind a k=>.a7 [.str "kind", .str a,.str k]
 |.word w=>.a7 [.str "word", .str w]
 |.lit=>.a7 [.str "lit"]
 |.no s=>.a7 [.str "not", A4 s]
 |.bo s t=>.a7 [.str "both", A4 s,A4 t]
def E?:Tst->L4.D
 |.at a b=>atO a b
 |.has a=>hsO a
 |.seen a=>seO a
 |.mark a v=>mkO a v
 |.kind a k=>kiO a k
 |.word w=>woO w
 |.lit=>liO
 |.no s=>noO (E? s)
 |.bo s t=>boO (E? s) (E? t)
def dp:Tst->Nat
 |.no s=>dp s+1
 |.bo s t=>max (dp s) (dp t)+1
 |_=>0
theorem Gc:∀(s:Tst) (n:Nat),dp s<n->yj n [A4 s]=Z (E? s)
 |s,0,h=>aq h (qQ _)
 |.at _ _,n+1,_=>by kernel_rfl
 |.has _,n+1,_=>by kernel_rfl
 |.seen _,n+1,_=>by kernel_rfl
 |.mark _ _,n+1,_=>by kernel_rfl
 |.kind _ _,n+1,_=>by kernel_rfl
 |.word _,n+1,_=>by kernel_rfl
 |.lit,n+1,_=>by kernel_rfl
 |.no s,n+1,h=>by have c:=Gc s n (by simp only[dp]at h;omega);exact vJ U ((xj U).t ((xj U).t ((xj U).t ((xj U).t ((xj U).t ((xj U).t (wg ((wB U).t (vS (FD (vv (vt U c) U) U))))))))))
 |.bo s t,n+1,h=>by have a:=Gc s n (by simp only[dp]at h;omega);have b:=Gc t n (by simp only[dp]at h;omega);exact vJ U ((xj U).t ((xj U).t ((xj U).t ((xj U).t ((xj U).t ((xj U).t ((xj U).t (wg ((wB U).t (vS (FD (vv (vt U a) (vv (vt U b) U)) U)))))))))))
inductive De where
 |mv (a b:Str)|pu (a:Str) (v:Int)
def deW:De->List L4.D
 |.mv a b=>[.str "move", .str a,.str b]
 |.pu a v=>[.str "put", .str a,.int v]
def M'(d:De):L4.D:=.a7 (deW d)
def Hs:De->L4.D
 |.mv a b=>S3 a b
 |.pu a v=>puO a v
def XJ(d:De):DZ [M' d]=Z (Hs d):=by cases d<;>kernel_rfl
def J'(h:xX b=Z l)(hd:xf l<=19):cb γ (.a3 b) (.a3 [])=Z (.X (!decide (b=[]))):=by
 cases b with
 |nil=>rfl
 |cons x c=>
  rw[aP (List.cons_ne_nil x c)];obtain⟨y,a,rfl⟩:∃y a,l=y::a:=by
   unfold xX at h;split at h
   .split at h
    .cases h;exact#v[_,_,U]
    .cases h
   .cases h
  have d:Gu γ (.a3 (x::c)) (.a3 [])=O:=rfl;have e:iE (.a3 (x::c))=Z (.a3 (y::a)):=by unfold iE;rw[h]
  have f:fc (.a3 (y::a))<=20:=by rw[fc];omega
  unfold cb;rw[d];unfold IB;rw[e,show iE (.a3 [])=Z (.a3 []) from U];show (if O1 (.a3 (y::a)) (.a3 [])&&decide (fc (.a3 (y::a))<=20)&&decide (fc (.a3 [])<=20)then Z (D.X (!oz (.a3 (y::a)) (.a3 [])))else O)=_;rw[aS f];rfl
theorem Jn:∀l:List (Str×Int),∃m,xX (l.map pD)=Z m/\xf m<=1
 |[]=>#v[[],U,by decide]
 |x::l=>by obtain⟨m,a,b⟩:=Jn l;refine#v[.a7 [.str x.1,.int x.2]::m,by rw[aV];unfold xX;rw[a];rfl,?_];exact nM.2 #v[aI 1,b]
def tx(f:Str):aB:=if f="one" then ["it"]else if f="two" then ["it", "other", "it"]else []
def j1(T:List Th):aB:=(T.filter λt=>!decide (t.k=.room)).map Th.n
def v?(T:List Th):aB:=gk T++[yN T,"here"]++(T.filter λt=>decide (t.k=.box)).map Th.n
def fm4{P:Str->Prop}(b:P "one")(c:P "two")(d:P "alone")(e:P "way"):∀f∈k4,P f:=λf a=>by simp only[k4,aM,cg,or_false]at a;rcases a with rfl|rfl|rfl|rfl<;>assumption
section
def YS(b:f∈k4):∀x∈tx f,By f x:=by
 refine fm4 (P:=λf=>∀x∈tx f,By f x) ?_ ?_ ?_ ?_ f b
 .intro x a;have:=by simpa [tx]using a
  subst this;exact .inl #v[U,by decide]
 .intro x a;have:x∈(["it", "other", "it"]:aB):=a;simp only[aM,cg,or_false]at this;rcases this with rfl|rfl|rfl
  .exact .inl #v[U,by decide]
  .exact .inr #v[U,U]
  .exact .inl #v[U,by decide]
 .intro x a;have:x∈([]:aB):=a;cases this
 .intro x a;have:x∈([]:aB):=a;cases this
def ae4(a:f∈k4)(h:x∈j1 T++tx f):Tm f (T.map Th.n) x:=by
 rcases aZ.1 h with h|h
 .obtain⟨t,b,rfl⟩:=au.1 h;exact .inl (b8 (aQ.1 b).1)
 .exact .inr (.inr (YS a x h))
def y_T(g:ea T M b W):∃t∈T,t.n=yN T/\t.k=.you:=by
 have h:yN T∈(T.filter λt=>decide (t.k=.you)).map Th.n:=by rw[g.y1];exact bu.2 U
 obtain⟨t,a,e⟩:=au.1 h;exact#v[t,(aQ.1 a).1,e,bh (aQ.1 a).2]
def YT(g:ea T M d W)(h:x∈v? T):Tm f (n? T) x:=by
 have b:∀t∈T,t.k.hd=γ->t.n∈n? T:=λt a c=>b8 (aQ.2 #v[a,c]);rcases aZ.1 h with h|h
 .rcases aZ.1 h with h|h
  .obtain⟨t,a,rfl⟩:=au.1 h;exact .inl (b t (aQ.1 a).1 (by rw[bh (aQ.1 a).2];rfl))
  .simp only[aM,cg,or_false]at h;rcases h with rfl|rfl
   .obtain⟨t,a,e,k⟩:=y_T g;rw[<-e];exact .inl (b t a (by rw[k];rfl))
   .exact .inr (.inl U)
 .obtain⟨t,a,rfl⟩:=au.1 h;exact .inl (b t (aQ.1 a).1 (by rw[bh (aQ.1 a).2];rfl))
def mP_b(g:ea T M c W)(h:q∈mP T M):0<=q.2/\q.2<=3:=by
 rcases aZ.1 h with h|h
 .obtain⟨t,_,rfl⟩:=au.1 h;exact#v[(by show (0:Int)<=1;decide),(by show (1:Int)<=3;decide)]
 .obtain⟨m,b,rfl⟩:=au.1 h;obtain⟨d,a,_,_⟩:=g.mo m b;exact#v[by show 0<=m.mo;omega,a]
inductive Ts(T:List Th) (M:List Mk) (f:Str):Nat->L4.D->Prop
 |ats {n:Nat} {a b:Str} (ha:Tm f (T.map Th.n) a) (hb:Tm f (n? T) b):Ts T M f n (atO a b)
 |has {n:Nat} {a:Str} (ha:Tm f (T.map Th.n) a):Ts T M f n (hsO a)
 |seen {n:Nat} {a:Str} (ha:Tm f (T.map Th.n) a):Ts T M f n (seO a)
 |mark {n:Nat} {q:Str×Int} {v:Int} (h:Mt T M f q):Ts T M f n (mkO q.1 v)
 |kind {n:Nat} {a k:Str} (ha:Tm f (T.map Th.n) a):Ts T M f n (kiO a k)
 |word {n:Nat} {x:Str} (hf:f="way"):Ts T M f n (woO x)
 |lit {n:Nat}:Ts T M f n liO
 |no {n:Nat} {d:L4.D} (h:Ts T M f n d):Ts T M f (n+1) (noO d)
 |bo {n:Nat} {d e:L4.D} (h:Ts T M f n d) (h':Ts T M f n e):Ts T M f (n+1) (boO d e)
def Mr(T:List Th)(M:List Mk)(m:Str->Int):Prop:=∀q∈mP T M,0<=m q.1/\m q.1<=q.2
inductive Ds(T:List Th) (M:List Mk) (f:Str):L4.D->Prop
 |put {q:Str×Int} {v:Int} (h:Mt T M f q) (h0:0<=v):Ds T M f (puO q.1 v)
 |move {a b:Str} (ha:Mv T f a) (hb:Tm f (n? T) b) (hm:a=yN T->∃t∈T,t.n=b/\t.k=.room):Ds T M f (S3 a b)
def TOk(T:List Th)(M:List Mk)(w:L4.D)(f:Str)(n:Nat)(d:L4.D):Prop:=∃s,d=A4 s/\Tk w f n (E? s)/\dp s<=n/\Ts T M f n (E? s)
def YU(b:f∈k4)(h:cV 1 a=Z (.str f,a)):DJ (Hg [("one", (cL (vO fJ))),("two", (cL (vO jC)))]) ag (cL (vO vP)) a=Z (.a3 ((tx f).map D.str),a):=by
 have key:∀f∈k4,∀a:bc,cV 1 a=Z (.str f,a)->DJ (Hg [("one", (cL (vO fJ))),("two", (cL (vO jC)))]) ag (cL (vO vP)) a=Z (.a3 ((tx f).map D.str),a):=by refine fm4 ?_ ?_ ?_ ?_<;>intro a h<;>(unfold DJ;rw[show Hg [("one", (cL (vO fJ))),("two", (cL (vO jC)))] a=Z (.i0 [Sum.inr "one", Sum.inr "two"] [.a3 [.str "it"],.a3 [.str "it", .str "other", .str "it"]],a) from by kernel_rfl];simp only[h];kernel_rfl)
 exact key f b a h
end
def BW(e:c ρ=Z (γ,ρ1))(f:d ρ1=Z (b,a)):xI c d ρ=Z (b,a):=by unfold xI;rw[e];exact f
def Hy{a:Type}{L:List a}(F:a->L4.D){i:Nat}{ρ:bc}(h:cV i ρ=Z (.a3 (L.map F),ρ)):c1 w5 (cV i) ρ=Z (dN L.length,ρ):=wt h (by show Z (D.int (L.map F).length)=_;rw[ae])
def Ly{a:Type}{L:List a}(F:a->L4.D)(y:a){i z:Nat}{e:FE}{ρ:bc}(b:0<L.length)(h:cV i ρ=Z (.a3 (L.map F),ρ))(c:e ρ=Z (dN z,ρ)):c2 b3 (cV i) (c2 vZ e (c1 w5 (cV i))) ρ=Z (F (L.getD (z % L.length) y),ρ):=
 vw h (vw c (Hy F h) (md b)) (XG F y (aK _ b))
def pk_c{L:aB}{i:Nat}(a:0<k)(d:L.length=k)(h:c ρ=Z (.a3 (L.map D.str),ρ))(b:e ρ=Z (dN z,ρ)):c2 b3 c (c2 vZ e (cC (.int k))) ρ=Z (.str (L.getD (z % k) ""),ρ):=
 vw h (vw b U (md a)) (DA (by rw[d];exact aK _ a))
def E5{c k:Nat}{a:bc}(h:cV 0 a=Z (dN c,a))(d:0<k)(b:k<1073741824):c2 wY aa (cC (.int k)) a=Z (dN (c / k),a):=vw h U (dv d b)
section
variable{V:List Vb}
def YV(g:ea T M b W):0<(j1 T).length:=by obtain⟨t,a,_,k⟩:=y_T g;exact i3 (b8 (aQ.2 #v[a,by rw[k];rfl]))
def YW(g:ea T M a W):(j1 T).length<=20:=by unfold j1;rw[ae];have:=cy (λt:Th=>!decide (t.k=.room)) T;have:=g.len;omega
def YX:(tx f).length<=3:=by
 unfold tx;split
 .decide
 .split<;>decide
def PY:0<(v? T).length:=by unfold v?;rw[aA,aA];show 0<_+2+_;omega
def pm{q:Str×Int}(h:0<=q.2/\q.2<=3):∃v:Int,vZ (dN (c / k)) (.int (q.2+1))=Z (.int v)/\0<=v/\v<=q.2:=
 #v[_,Cu (by omega),jk _ (by omega),by have:=mf ((c / k:Nat):Int) (show 0<q.2+1 by omega);omega]
def Kn(g:ea T M B W)(l:f∈k4)(n c:Nat)(o:n=0\/∃m,n=m+1/\∀c,∃d,xp (m+1) [dN c,.str f,.a3 ((j1 T).map D.str),.a3 ((v? T).map D.str),.a3 ((mP T M).map pD),dN (m+1)]=Z d/\TOk T M (fm T M B W V) f m d):∃d,xp (n+1) [dN c,.str f,.a3 ((j1 T).map D.str),.a3 ((v? T).map D.str),.a3 ((mP T M).map pD),dN (n+1)]=Z d/\TOk T M (fm T M B W V) f n d:=by
 let X:=j1 T++tx f;have lx:X.length=(j1 T).length+(tx f).length:=aA;have x0:0<X.length:=by rw[lx];have:=YV g;omega
 let a:=X.getD (c / 9 % X.length) "";have hat:Tm f (T.map Th.n) a:=ae4 l (wL (aK _ x0));let p:=(v? T).getD (c / 90 % (v? T).length) "";have hpt:Tm f (n? T) p:=YT g (wL (aK _ PY));let A:Sl:=.I (dN c);let F:Sl:=.I (.str f);let u:Sl:=.I (.a3 ((j1 T).map D.str));let P:Sl:=.I (.a3 ((v? T).map D.str));let K:Sl:=.I (.a3 ((mP T M).map pD));let Y:Sl:=.I (.a3 (X.map D.str));refine Gb U ?_;refine vC (vT (vy (b:=[A,F,u,P,K,.I (dN (n+1)),.un,.un,.un,.un,.un,.un]) ((wj (xw U (YU l U) (by rw[ae,ae];have:=YW g;have:=YX (f:=f);omega))).t (by rw[<-aX];rfl)) ?_));refine vC (vT (vy (Ly D.str "" x0 U (E5 U (by decide) (by decide))) ?_));refine vC (vT (vy (vw U U (md (by decide))) ?_));obtain⟨r,Q⟩:∃r,c % 9=r:=#v[_,U];have r9:r<9:=by rw[<-Q];exact aK _ (by decide)
 rw[Q];refine X? U ?_;rintro _ rfl;have lit:∀r:Nat,Ws (vA (vQ (a1 (cS "lit"))) [A,F,u,P,K,.I (dN (n+1)),Y,.I (.str a),.I (dN r),.un,.un,.un]) (λ_=>False) λd _=>TOk T M (fm T M B W V) f n d:=λr=>wy (vy U #v[.lit,U,acH,bR _,.lit]);have gt:∀(m r:Nat),n=m+1->cT (c2 DG bq az) [A,F,u,P,K,.I (dN (n+1)),Y,.I (.str a),.I (dN r),.un,.un,.un]=Z (γ,[A,F,u,P,K,.I (dN (n+1)),Y,.I (.str a),.I (dN r),.un,.un,.un]):=λm r j=>by show Z (decide ((1:Int)<((n+1:Nat):Int)),_)=_;rw[aS (by omega)]
 have S:∀(m:Nat) (t:bc),n=m+1->cV 5 t=Z (dN (n+1),t)->c2 Ep bq az t=Z (dN (m+1),t):=λm t j h=>(vw h U U).t (by
  show Z (D.int (((n+1:Nat):Int) - 1),t)=_;rw[show ((n+1:Nat):Int) - 1=((m+1:Nat):Int) by omega])
 have cases9:=(by decide:∀r<9,r=0\/r=1\/r=2\/r=3\/r=4\/r=5\/r=6\/r=7\/r=8) r r9;clear Q r9;rcases cases9 with rfl|rfl|rfl|rfl|rfl|rfl|rfl|rfl|rfl
 .refine j2 U (wy (vy (xu (vv U (vv U (vv (Ly D.str "" PY U (E5 U (by decide) (by decide))) U))) (bG U)) ?_));exact#v[.at a p,U,aeL g l hat hpt,bR _,.ats hat hpt]
 .exact e4 U (j2 U (wy (vy U #v[.has a,U,acG g l hat,bR _,.has hat])))
 .exact e4 U (j2 U (wy (vy U #v[.seen a,U,Xy g l hat,bR _,.seen hat])))
 .obtain⟨ml,m1,m2⟩:=Jn (mP T M);have y:=J' m1 (by omega);refine e4 U (e4 U ?_);by_cases C:(mP T M).map pD=[]
  .rw[aS C]at y;exact e4 (BW U (we (vw U U y))) (e4 U (e4 U (e4 U (e4 U (lit 3)))))
  .rw[aP C]at y;have w:0<(mP T M).length:=by
    rcases pY (mP T M).length with z|z
    .exact aq (by rw[hZ.1 z];rfl) C
    .exact z
   let q:=(mP T M).getD (c / 90 % (mP T M).length) ("", 0);have N:q∈mP T M:=wL (aK _ w);obtain⟨v,e1,v0,v1⟩:=pm (mP_b g N);refine j2 (BW U (we (vw U U y))) (vC (Lu (vy (Ly pD ("", 0) w U (E5 U (by decide) (by decide))) #v[[A,F,u,P,K,.I (dN (n+1)),Y,.I (.str a),.I (dN 3),.I (.str q.1),.I (.int q.2),.un],U,?_])));refine wy (vy (xu (vv U (vv U (vv (vw (E5 U (by decide) (by decide)) U e1) U))) (bG U)) ?_);exact#v[.mark q.1 v,U,Xz g l (.inl N) v0 v1,bR _,.mark (.inl N)]
 .let k:=(["plain", "box", "lamp", "fixed"]:aB).getD (c / 90 % 4) "";have hk:k∈(["plain", "box", "lamp", "fixed"]:aB):=wL (show _<4 from aK _ (by decide));have J:k∈(["plain", "fixed", "box", "lamp", "room", "you"]:aB):=by simp only[aM,cg,or_false]at hk ⊢;rcases hk with h|h|h|h<;>simp[h]
  refine e4 U (e4 U (e4 U (j2 U (wy (vy (xu (vv U (vv U (vv (pk_c (L:=["plain", "box", "lamp", "fixed"]) (i:=0) (by decide) U U (E5 U (by decide) (by decide))) U))) (bG U)) ?_)))));exact#v[.kind a k,U,XA g l hat J,bR _,.kind hat]
 .refine e4 U (e4 U (e4 U (e4 U ?_)));by_cases hw:f="way"
  .subst hw;let x:=(["north", "up", "in"]:aB).getD (c / 90 % 3) "";have hx:x∈(["north", "up", "in"]:aB):=wL (show _<3 from aK _ (by decide));have R:=by
    have:((["north", "up", "in"]:aB).all λx=>decide (x∈υ))=γ:=by kernel_rfl
    exact bh (aH.1 this x hx)
   refine j2 U (wy (vy (xu (vv U (vv (pk_c (L:=["north", "up", "in"]) (i:=0) (by decide) U U (E5 U (by decide) (by decide))) U)) (bG U)) ?_));exact#v[.word x,U,XB R,bR _,.word U]
  .have e:cb δ (.str f) (.str "way")=Z (.X δ):=by rw[xk,aP hw];rfl
   exact e4 (BW U (we (vw U U e))) (e4 U (e4 U (lit 5)))
 .refine e4 U (e4 U (e4 U (e4 U (e4 U ?_))));rcases o with rfl|⟨m,j,o⟩
  .exact e4 U (e4 U (lit 6))
  .obtain⟨d,e,s,rfl,E,h2,H⟩:=o (c / 7);refine j2 (BW U (gt m 6 j)) (wy (vy (xu (vv U (vv (vt (vv (E5 U (by decide) (by decide)) (vv U (vv U (vv U (vv U (vv (S m _ j U) U)))))) (by rw[j];exact e)) U)) (bG U)) ?_));subst j;exact#v[.no s,U,UE E,by show dp s+1<=m+1;omega,.no H]
 .refine e4 U (e4 U (e4 U (e4 U (e4 U (e4 U ?_)))));rcases o with rfl|⟨m,j,o⟩
  .exact e4 U (lit 7)
  .obtain⟨d,e,s,rfl,E,h2,H⟩:=o (c / 11);obtain⟨d',e',s',rfl,G,h2',I⟩:=o (c / 13);refine j2 (BW U (gt m 7 j)) (vC (vT (vy (vt (vv (E5 U (by decide) (by decide)) (vv U (vv U (vv U (vv U (vv (S m _ j U) U)))))) (by rw[j];exact e)) ?_)));refine wy (vy (xu (vv U (vv U (vv (vt (vv (E5 U (by decide) (by decide)) (vv U (vv U (vv U (vv U (vv (S m _ j U) U)))))) (by rw[j];exact e')) U))) (bG U)) ?_);subst j;exact#v[.bo s s',U,Rw E G,by show max (dp s) (dp s')+1<=m+1;omega,.bo H I]
 .exact e4 U (e4 U (e4 U (e4 U (e4 U (e4 U (e4 U (lit 8)))))))
theorem PZ(g:ea T M b W)(a:f∈k4):∀(n c:Nat),∃d,xp (n+1) [dN c,.str f,.a3 ((j1 T).map D.str),.a3 ((v? T).map D.str),.a3 ((mP T M).map pD),dN (n+1)]=Z d/\TOk T M (fm T M b W V) f n d
 |0,c=>Kn g a 0 c (.inl U)
 |n+1,c=>Kn g a (n+1) c (.inr #v[n,U,λc=>PZ g a n c])
end
def OF(b:c d=Z (δ,a)):xI c e d=Z (δ,a):=by unfold xI;rw[b]
def DOk(T:List Th)(M:List Mk)(w:L4.D)(f:Str)(d:L4.D):Prop:=∃s,d=M' s/\Dd w f (Hs s)/\Ds T M f (Hs s)
section
variable{V:List Vb}
def UV(b:f∈k4)(h:x∈j1 T++tx f):Mv T f x:=by
 rcases aZ.1 h with h|h
 .obtain⟨t,a,rfl⟩:=au.1 h;exact .inl #v[t,(aQ.1 a).1,U,by simpa using (aQ.1 a).2]
 .exact .inr (YS b x h)
def d12(a:f∈k4):∃b,j0 δ (.str f) (.a7 [.str "one", .str "two"])=Z (.X b)/\(b=γ->f∈(["one", "two"]:aB)):=
 fm4 (P:=λf=>∃b,j0 δ (.str f) (.a7 [.str "one", .str "two"])=Z (.X b)/\(b=γ->f∈(["one", "two"]:aB))) #v[γ,by kernel_rfl,λt=>by decide] #v[γ,by kernel_rfl,λt=>by decide] #v[δ,by kernel_rfl,λz=>by cases z] #v[δ,by kernel_rfl,λz=>by cases z] f a
def rm_T(g:ea T M c W)(h:x∈gk T):Tm f (n? T) x/\∃t∈T,t.n=x/\t.k=.room:=by obtain⟨t,a,rfl⟩:=au.1 h;have b:=bh (aQ.1 a).2;exact#v[.inl (b8 (aQ.2 #v[(aQ.1 a).1,by rw[b];rfl])),t,(aQ.1 a).1,U,b]
def XM(g:ea T M t W)(i:f∈k4)(c:Nat):∃d,z7 [dN c,.str f,.a3 ((j1 T).map D.str),.a3 ((v? T).map D.str),.a3 ((mP T M).map pD),.a3 ((gk T).map D.str),.str (yN T)]=Z d/\DOk T M (fm T M t W V) f d:=by
 let X:=j1 T++tx f;have N:X.length=(j1 T).length+(tx f).length:=aA;have H:0<X.length:=by rw[N];have:=YV g;omega
 have G:0<(gk T).length:=by unfold gk;rw[ae];exact g.r1
 let a:=X.getD (c / 5 % X.length) "";have hax:a∈X:=wL (aK _ H);let p:=(v? T).getD (c / 50 % (v? T).length) "";have hpt:Tm f (n? T) p:=YT g (wL (aK _ PY));let b:=(gk T).getD (c / 50 % (gk T).length) "";obtain⟨hbt,hbr⟩:=rm_T g (wL (aK _ G):b∈gk T);let A:Sl:=.I (dN c);let F:Sl:=.I (.str f);let o:Sl:=.I (.a3 ((j1 T).map D.str));let P:Sl:=.I (.a3 ((v? T).map D.str));let K:Sl:=.I (.a3 ((mP T M).map pD));let R:Sl:=.I (.a3 ((gk T).map D.str));let r:Sl:=.I (.str (yN T));let Y:Sl:=.I (.a3 (X.map D.str));let j:=[A,F,o,P,K,R,r,Y,.I (.str a),.un,.un];refine Gb U ?_;refine vC (vT (vy (b:=[A,F,o,P,K,R,r,.un,.un,.un,.un]) ((wj (xw U (YU i U) (by rw[ae,ae];have:=YW g;have:=YX (f:=f);omega))).t (by rw[<-aX];rfl)) ?_));refine vC (vT (vy (Ly D.str "" H U (E5 U (by decide) (by decide))) ?_));refine X? U ?_;rintro _ rfl;have E:∀k:Nat,c2 (cb δ) (c2 vZ aa cB) (cC (.int k)) j=Z (.X (decide (((c % 5:Nat):Int)=k)),j):=λk=>vw (vw U U (md (by decide))) U ((xW δ _ _).t (by cases decide (((c % 5:Nat):Int)=(k:Int))<;>rfl));have tail:Ws (a0 (eg (cT (c2 (cb δ) bT bf)) (vA (vQ nV)) vG)
   (vA (vQ nW)) j) (λs=>False) λd s=>DOk T M (fm T M t W V) f d:=by
  have e:c2 (cb δ) bT bf j=Z (.X (decide (a=yN T)),j):=vw U U ((xk δ a (yN T)).t (by cases decide (a=yN T)<;>rfl));by_cases h:a=yN T
  .rw[aS h]at e;refine j2 (we e) (wy (vy (xu (vv U (vv U (vv (Ly D.str "" G U (E5 U (by decide) (by decide))) U))) (bG U)) ?_));have B:Mv T f (yN T):=by rw[<-h];exact UV i hax
   exact#v[.mv (yN T) b,U,PN g i B hbt (λs=>hbr),.move B hbt λs=>hbr]
  .rw[aP h]at e;refine e4 (we e) (wy (vy (xu (vv U (vv U (vv (Ly D.str "" PY U (E5 U (by decide) (by decide))) U))) (bG U)) ?_));exact#v[.mv a p,U,PN g i (UV i hax) hpt (λz=>aq z h),.move (UV i hax) hpt λz=>aq z h]
 have C:Ws (a0 (eg (xI (cT (c2 (cb δ) (c2 vZ aa cB) az)) (cT (c2 (j0 δ) ag (vQ kZ)))) (vA (vQ sT)) vG)
  (a0 (eg (cT (c2 (cb δ) bT bf)) (vA (vQ nV)) vG)
   (vA (vQ nW))) j) (λs=>False) λd s=>DOk T M (fm T M t W V) f d:=by
  have e:=E 1;cases h:decide (((c % 5:Nat):Int)=(1:Nat))
  .rw[h]at e;exact e4 (OF (we e)) tail
  .rw[h]at e;obtain⟨b,J,y⟩:=d12 i;have x:=BW (we e) (we (vw (e:=cV 1) (e':=vQ kZ) U U J));cases b with
   |false=>exact e4 x tail
   |true=>refine j2 x (wy (vy (xu (vv U (vv U (vv (vw (E5 U (by decide) (by decide)) U (md (by decide))) U))) (bG U)) ?_));exact#v[.pu "it" (c / 50 % 4:Nat),U,UF (q:=("it", 3)) g i (.inr #v[.inl #v[U,y U],nH 3]) (by omega) (by show ((c / 50 % 4:Nat):Int)<=3;omega),.put (q:=("it", 3)) (.inr #v[.inl #v[U,y U],nH 3]) (by omega)]
 have e:=E 0;cases h:decide (((c % 5:Nat):Int)=(0:Nat))
 .rw[h]at e;exact e4 (OF (we e)) C
 .rw[h]at e;obtain⟨ml,Q,m2⟩:=Jn (mP T M);have m:=J' Q (by omega);by_cases u:(mP T M).map pD=[]
  .rw[aS u]at m;exact e4 (BW (we e) (we (vw U U m))) C
  .rw[aP u]at m;have l:0<(mP T M).length:=by
    rcases pY (mP T M).length with z|z
    .exact aq (by rw[hZ.1 z];rfl) u
    .exact z
   let q:=(mP T M).getD (c / 50 % (mP T M).length) ("", 0);have w:q∈mP T M:=wL (aK _ l);obtain⟨v,I,v0,S⟩:=pm (mP_b g w);refine j2 (BW (we e) (we (vw U U m))) (vC (Lu (vy (Ly pD ("", 0) l U (E5 U (by decide) (by decide))) #v[[A,F,o,P,K,R,r,Y,.I (.str a),.I (.str q.1),.I (.int q.2)],U,?_])));refine wy (vy (xu (vv U (vv U (vv (vw (E5 U (by decide) (by decide)) U I) U))) (bG U)) ?_);exact#v[.pu q.1 v,U,UF g i (.inl w) v0 S,.put (.inl w) v0]
end
def Jo:xU []=Z (v9.map mu):=by kernel_rfl
def txL:aB:=["So be it.", " two  blanks ", "x", "refuses at it", fF "~" 60]
def XN(h:x∈txL):Ce [.str x]=Z (.X γ):=Dj (aH.1 (show (txL.all λx=>isT (Ce [.str x]))=γ by kernel_rfl) x h)
structure Rs where
 v:Vb
 ts:List Tst
 ds:List De
 tx:Str
 rf:Bool
def T?(r:Rs):L4.D:=.a7 [.str r.v.n,.a3 (r.ts.map A4),.a3 (r.ds.map M'),.str r.tx,.X r.rf]
structure Na(T:List Th)(M:List Mk)(w:L4.D)(V:List Vb)(r:Rs):Prop where
 v:r.v∈V++v9
 lt:r.ts.length<=2
 t:∀t∈r.ts,Tk w r.v.f 2 (E? t)/\dp t<=2/\Ts T M r.v.f 2 (E? t)
 ld:r.ds.length<=2
 d:∀d∈r.ds,Dd w r.v.f (Hs d)/\Ds T M r.v.f (Hs d)
 x:r.tx∈txL
 rf:r.rf=γ->r.ds=[]
def YY(h:v∈v6++v9):v.f∈k4:=bh (aH.1 (show ((v6++v9).all λv=>decide (v.f∈k4))=γ by kernel_rfl) v h)
def Jp(h:e ρ=Z (dN m,a))(f:m<=100):r? e ρ=Z ((aC m).map λj:Nat=>D.int j,a):=by obtain⟨c,b,d,rfl,rfl⟩:=Ry (kl:=λc b=>c=(aC m).map (λj:Nat=>D.int j)/\b=a) (vy h #v[m,U,f,U,U]);exact d
def YZ(k:Kd):cb γ (.str k.s) (.str "room")=Z (.X (!decide (k=.room))):=by cases k<;>kernel_rfl
def ae6(T:List Th)(a:T.length<=1000)(hi:cV i ρ=Z (.a3 (T.map k?),ρ)):vE 1 [] (iL (cV i)) (gN 0) (cT (c2 (cb γ) (c2 b3 aa bI) cH)) (c2 b3 aa av) ρ=Z ((j1 T).map D.str,ρ):=by refine(xx k? (λt=>.str t.n) (λt=>!decide (t.k=.room)) T (Ux hi) a λt s=>#v[[.I (k? t)],_,U,we (vw (vw U U U) U (YZ t.k)),λs=>#v[_,U,U],λs=>U]).t ?_;unfold j1;rw[aY];rfl
def UW{c:Type}(F:c->L4.D){l:List c}{a b:Nat}(h:a<=b)(f:b<=l.length):fb (l.map F) (Z (a:Int)) (Z (b:Int))=((l.drop a).take (b - a)).map F:=by
 unfold fb;have d:HT.e7 (l.map F).length 0 (Z (a:Int))=a:=by rw[HT.HK,ae,gA (by omega)]
 have e:HT.e7 (l.map F).length (l.map F).length (Z (b:Int))=b:=by rw[HT.HK,ae,gA f]
 rw[d,e,fU,fT]
section
variable{V:List Vb}
def XO(g:ea T M b W)(i:f∈k4):∃a:Nat->Tst,∀c,xp 3 [dN c,.str f,.a3 ((j1 T).map D.str),.a3 ((v? T).map D.str),.a3 ((mP T M).map pD),dN 3]=Z (A4 (a c))/\Tk (fm T M b W V) f 2 (E? (a c))/\dp (a c)<=2/\Ts T M f 2 (E? (a c)):=
 oU (r:=λc s=>xp 3 [dN c,.str f,.a3 ((j1 T).map D.str),.a3 ((v? T).map D.str),.a3 ((mP T M).map pD),dN 3]=Z (A4 s)/\Tk (fm T M b W V) f 2 (E? s)/\dp s<=2/\Ts T M f 2 (E? s)) λc=>by obtain⟨d,e,s,rfl,h⟩:=PZ g i 2 c;exact#v[s,e,h]
def XQ(g:ea T M b W)(i:f∈k4):∃a:Nat->De,∀c,z7 [dN c,.str f,.a3 ((j1 T).map D.str),.a3 ((v? T).map D.str),.a3 ((mP T M).map pD),.a3 ((gk T).map D.str),.str (yN T)]=Z (M' (a c))/\Dd (fm T M b W V) f (Hs (a c))/\Ds T M f (Hs (a c)):=
 oU (r:=λc s=>z7 [dN c,.str f,.a3 ((j1 T).map D.str),.a3 ((v? T).map D.str),.a3 ((mP T M).map pD),.a3 ((gk T).map D.str),.str (yN T)]=Z (M' s)/\Dd (fm T M b W V) f (Hs s)/\Ds T M f (Hs s)) λc=>by obtain⟨d,e,s,rfl,h⟩:=XM g i c;exact#v[s,e,h]
def UX(g:ea T M N W)(hm:m<64)(c:Int):∃RS:List Rs,RS.length<=4/\(∀r∈RS,Na T M (fm T M N W (vL m)) (vL m) r)/\Au [.int c,.a3 (T.map k?),.a3 ((mP T M).map pD),.a3 ((vL m).map mu)]=Z (.a3 (RS.map T?)):=by
 suffices h:∃d,Au [.int c,.a3 (T.map k?),.a3 ((mP T M).map pD),.a3 ((vL m).map mu)]=Z d/\∃RS:List Rs,RS.length<=4/\(∀r∈RS,Na T M (fm T M N W (vL m)) (vL m) r)/\d=.a3 (RS.map T?) by obtain⟨_,e,RS,h1,h2,rfl⟩:=h;exact#v[RS,h1,h2,e]
 obtain⟨l,hl,el⟩:=Jm c 40 (by decide);have lT:=g.len;have lV:=BS m;let V:=vL m++v9;have v0:=by show 0<(vL m++v9).length;rw[aA];show 0<_+9;omega
 let A:Sl:=.I (.int c);let S:Sl:=.I (.a3 (T.map k?));let K:Sl:=.I (.a3 ((mP T M).map pD));let C:Sl:=.I (.a3 ((vL m).map mu));let E:Sl:=.I (dl l);let R:Sl:=.I (.a3 ((gk T).map D.str));let u:Sl:=.I (.str (yN T));let p:Sl:=.I (.a3 ((j1 T).map D.str));let P:Sl:=.I (.a3 ((v? T).map D.str));let F:Sl:=.I (.a3 (V.map mu));have lbx:((T.filter λt=>decide (t.k=.box)).map Th.n).length<=13:=by rw[ae];exact bz (cy _ _) lT
 have lrm:(gk T).length<=13:=by unfold gk;rw[ae];exact bz (cy _ _) lT
 let J:=λ(i:Nat) (ρ:bc)=>∃(RS:List Rs) (s1 X Y s4 s5 s6 G H B y:Sl),ρ=[A,S,K,C,E,R,u,p,P,F,.Y (RS.map T?),s1,X,Y,s4,s5,s6,G,H,B,y]/\RS.length<=i/\∀r∈RS,Na T M (fm T M N W (vL m)) (vL m) r;refine Gb U ?_;refine vC (vT (vy (wj (vt U el)) ?_));refine vC (vT (vy (wj (of_eq T (by omega) U .room)) ?_));refine vC (vT (vy (vw ((wj (of_eq T (by omega) U .you)).t (by rw[g.y1])) U U) ?_));refine vC (vT (vy (wj (ae6 T (by omega) U)) ?_));refine vC (vT (vy (a:=.a3 ((v? T).map D.str)) (wj ((xw (wj (xw U U (by rw[ae];show (gk T).length+2<=1000;omega))) (wj (of_eq T (by omega) U .box)) (by rw[aA,ae,ae (as:=c4 Th.n _)];show (gk T).length+2+_<=1000;omega)).t (by unfold v?;rw[aX,aX];rfl))) ?_));refine vC (vT (vy (wj ((xw U (wj (vt U Jo)) (by rw[ae,ae];show _+9<=1000;omega)).t (by rw[<-aX]))) ?_));refine vC (z8 U ?_);refine vC (BU (Ry (vy (vw (vw U U (zD (i:=0) (by omega))) U (md (by decide))) #v[gd l 0 % 5,U,by have:gd l 0 % 5<5:=aK _ (by decide);omega,J,#v[[],_,_,_,_,_,_,_,_,_,_,U,aI _,λw hw=>(by cases hw)],?_,?_])))
 .rintro i _ _ hd ⟨RS,s1,X,Y,s4,s5,s6,G,H,B,y,rfl,lR,ok⟩;obtain⟨hi,rfl⟩:=D6 hd;let z:=(l.drop (1+7 * i)).take 7;have lz:z.length=7:=by show ((l.drop (1+7 * i)).take 7).length=7;rw[cv,c8];omega
  let v:=V.getD (gd z 0 % V.length) #v["", [],"", O];have hv:v∈vL m++v9:=wL (aK _ v0);have hv6:v∈v6++v9:=by
   rcases aZ.1 hv with h|h
   .exact bC _ (D3 h)
   .exact bx _ h
  have hf:=YY hv6;obtain⟨tf,htf⟩:=XO g hf;obtain⟨df,hdf⟩:=XQ g hf;let nt:=gd z 1 % 3;let nd:=gd z 1 / 12 % 3;let ts:=(aC nt).map λk=>tf (gd z (2+k));let q:=(aC nd).map λk=>df (gd z (4+k));let Q:=decide (((gd z 1 / 3 % 4:Nat):Int)=0);let x:=txL.getD (gd z 6 % 5) "";have hx:x∈txL:=wL (show _<5 from aK _ (by decide));let I:Sl:=.I (dN i);let AT:Sl:=.I (dl z);let v1:Sl:=.I (.str v.n);let v2:Sl:=.I (.a7 (v.o.map D.str));let v3:Sl:=.I (.str v.f);let v4:Sl:=.I (oS v.j);let L:Sl:=.Y (RS.map T?);have ez:cL (Dy aG (o3 (c2 wF az (c2 ym dh dt))) (o3 (c2 wF dS (c2 ym dh dt)))) [A,S,K,C,E,R,u,p,P,F,L,I,X,Y,s4,s5,s6,G,H,B,y]=Z (dl z,[A,S,K,C,E,R,u,p,P,F,L,I,X,Y,s4,s5,s6,G,H,B,y]):=by obtain⟨d,ρ,e,rfl,rfl⟩:=w_L (k:=λd ρ=>d=dl z/\ρ=[A,S,K,C,E,R,u,p,P,F,L,I,X,Y,s4,s5,s6,G,H,B,y]) (w_sx (e:=cV 4) (ρ:=[A,S,K,C,E,R,u,p,P,F,L,I,X,Y,s4,s5,s6,G,H,B,y]) (lo:=o3 (c2 wF az (c2 ym dh dt))) (hi:=o3 (c2 wF dS (c2 ym dh dt))) (vy U #v[l.map dN,U,w_oA (vy (vw U (vw U U (yu (.inl (by decide)))) U) #v[((1+7 * i:Nat):Int),U,w_oA (vy (vw U (vw U U (yu (.inl (by decide)))) U) #v[((8+7 * i:Nat):Int),U,by rw[UW dN (by omega) (by omega),show 8+7 * i - (1+7 * i)=7 by omega];rfl,U])])]));exact e
  refine#v[_,U,vC (vT (vy ez ?_))];refine vC (Lu (vy (Ly mu #v["", [],"", O] v0 U (vw U U (zD (i:=0) (by omega)))) #v[[A,S,K,C,E,R,u,p,P,F,L,I,AT,v1,v2,v3,v4,G,H,B,y],U,?_]));have z1:∀ρ:bc,cV 12 ρ=Z (dl z,ρ)->c2 b3 di az ρ=Z (dN (gd z 1),ρ):=λρ h=>vw h U (zD (i:=1) (by omega));refine vC (vT (vy (a:=.a3 (ts.map A4)) (wj ((xq (λj:Nat=>D.int j) (λk=>A4 (tf (gd z (2+k)))) (aC nt) (Jp (vw (z1 _ U) U (md (by decide))) (by show nt<=100;omega)) (by rw[bL];omega) λk hk=>#v[[.I (dN k),v3,p,P,K,AT],[.I (dN k),v3,p,P,K,AT],U,vt (vv (vw U U (zD (by have:=bB.1 hk;omega))) U) (htf _).1,U]).t (by rw[show ts.map A4=(aC nt).map λk=>A4 (tf (gd z (2+k))) from aY]))) ?_));refine vC (vT (vy (vw (vw (vw (z1 _ U) U (dv (by decide) (by decide))) U (md (by decide))) U ((xW δ _ _).t (by show Z (D.X _)=Z (D.X Q);cases h:Q<;>simp[Q]at h<;>simp[h]))) ?_));refine vC (vT (vy (a:=.a3 (q.map M')) (b:=[A,S,K,C,E,R,u,p,P,F,L,I,AT,v1,v2,v3,v4,.I (.a3 (ts.map A4)),.I (.X Q),B,y]) (wj ((xq (λj:Nat=>D.int j) (λk=>M' (df (gd z (4+k)))) (aC nd) (Jp (vw (vw (z1 _ U) U (dv (by decide) (by decide))) U (md (by decide))) (by show nd<=100;omega)) (by rw[bL];omega) λk hk=>#v[[.I (dN k),v3,p,P,K,R,u,AT],[.I (dN k),v3,p,P,K,R,u,AT],U,vt (vv (vw U U (zD (by have:=bB.1 hk;omega))) U) (hdf _).1,U]).t (by rw[show q.map M'=(aC nd).map λk=>M' (df (gd z (4+k))) from aY];rfl))) ?_));have oT:∀t∈ts,Tk (fm T M N W (vL m)) v.f 2 (E? t)/\dp t<=2/\Ts T M v.f 2 (E? t):=λt ht=>by obtain⟨k,_,rfl⟩:=au.1 ht;exact(htf _).2
  have oD:∀d∈q,Dd (fm T M N W (vL m)) v.f (Hs d)/\Ds T M v.f (Hs d):=λd hd=>by obtain⟨k,_,rfl⟩:=au.1 hd;exact(hdf _).2
  have lt:ts.length<=2:=by show ((aC nt).map _).length<=2;rw[ae,bL];omega
  have ld:q.length<=2:=by show ((aC nd).map _).length<=2;rw[ae,bL];omega
  have fin:∀ds:List De,ds.length<=2->(∀d∈ds,Dd (fm T M N W (vL m)) v.f (Hs d)/\Ds T M v.f (Hs d))->(Q=γ->ds=[])->Ws (a0 (vN 20 (c2 b3 (cL (vO sD)) (c2 vZ (c2 b3 di gY) cB)))
    (wc (zT 10 (vQ sG)))
    [A,S,K,C,E,R,u,p,P,F,L,I,AT,v1,v2,v3,v4,.I (.a3 (ts.map A4)),.I (.X Q),.I (.a3 (ds.map M')),y]) (J (i+1)) λd s=>∃RS:List Rs,RS.length<=4/\(∀r∈RS,Na T M (fm T M N W (vL m)) (vL m) r)/\d=.a3 (RS.map T?):=λds hl2 ew hrf=>by
   refine vC (vT (vy (pk_c (L:=txL) (i:=0) (by decide) U (by kernel_rfl) (vw U U (zD (i:=6) (by omega)))) ?_));refine D5 (vy (za U U U (by rw[ae];omega)) #v[RS++[#v[v,ts,ds,x,Q]],_,_,_,_,_,_,_,_,_,_,by rw[aX];rfl,by rw[aA];exact j6 lR,snoc ok #v[hv,lt,oT,hl2,ew,hx,hrf]])
  refine vC (Ls (vy U #v[λh=>z8 U (fin [] (by decide) (λd hd=>by cases hd) λs=>U),λh=>z8 U (fin q ld oD λz=>by rw[h]at z;cases z)]))
 .rintro _ ⟨RS,s1,X,Y,s4,s5,s6,G,H,B,y,rfl,lR,ok⟩;rw[ae,bL]at lR;exact OB (vy U #v[RS,by have:gd l 0 % 5<5:=aK _ (by decide);omega,ok,U])
end
def P3(b:List Int){X:L4.D}(hX:X=.nq (b.map D.int)\/X=.a3 (b.map D.int))(k:Nat):∃c,x9 [X,dN k]=Z (.int c):=by
 let d:bc:=[.I X,.I (dN k)];have a:cT (c2 N0 ag (c1 w5 aa)) d=Z (decide ((k:Int)<((b.map D.int).length:Nat)),d):=by rcases hX with rfl|rfl<;>rfl
 rw[ae]at a;by_cases h:k<b.length
 .rw[aS (by omega)]at a;refine#v[b[k],vJ U (wg ((wB a).t (vS (vw U U ?_))))];rcases hX with rfl|rfl<;>exact yy (by rw[bg,aO h];rfl)
 .rw[aP (by omega)]at a;exact#v[0,vJ U ((vz ((w9 a))))]
def PD(T:List Th)(M:List Mk)(a:aB)(W:List Wy)(m:Nat)(RS:List Rs):L4.D:=.a7 [.a3 (T.map k?),.a3 (M.map mkS),.a3 (a.map D.str),.a3 (W.map l?),.a3 ((vL m).map mu),.a3 (RS.map T?)]
def XR(R:aB):(aC R.length).map (λk=>R.getD k "")=R:=by refine qF (by rw[ae,bL]) λi b a=>?_;rw[qG,pZ,bQ,aO a];rfl
def g3(h:k<3):0<gd [1,4,16] k/\gd [1,4,16] k<1073741824:=by
 obtain rfl|rfl|rfl:k=0\/k=1\/k=2:=by omega
 all_goals decide
def pwA:aB:="room" ::"me" ::"myself" ::wpL
def UY(d:Lw l N T):∀t∈T,t.w.length<=3/\∀x∈t.w,x∈pwA:=λt c=>by
 obtain⟨r,n,y,P,_,_,_,i,eP,_⟩:=d.ex;rw[i]at c;rcases aZ.1 c with h|h
 .obtain⟨x,_,rfl⟩:=au.1 h;exact#v[by show 1<=3;decide,λx a=>by rw[bu.1 a];exact ba]
 .rcases aM.1 h with rfl|h
  .exact#v[by show 2<=3;decide,λx a=>a9 _ (by
    rcases aM.1 a with rfl|a
    .exact ba
    .rw[bu.1 a];exact a9 _ ba)]
  .have b:t.nw∈P.map Th.nw:=b8 h;rw[eP]at b;obtain⟨k,_,e⟩:=au.1 b;have f:=e;injection f with _ j;rw[<-j];exact#v[(Lv l k).2,λx a=>a9 _ (a9 _ (a9 _ (UO a)))]
def UZ{X:L4.D}(hX:∀k,∃c,x9 [X,dN k]=Z (.int c)):∃T M d W m RS,ea T M d W/\(∀t∈T,t.w.length<=3/\∀x∈t.w,x∈pwA)/\T.length<=9/\M.length<=2/\d.length<=3/\W.length<=4/\m<64/\RS.length<=4/\(∀r∈RS,Na T M (fm T M d W (vL m)) (vL m) r)/\Dh [X]=Z (PD T M d W m RS):=by
 obtain⟨Q,Y⟩:=hX 0;obtain⟨y,e1⟩:=hX 1;obtain⟨l,f,el⟩:=Jm Q 32 (by decide);obtain⟨N,eN,hN⟩:=UM f;obtain⟨T0,j,B,eT⟩:=RA f hN;obtain⟨M,q,F,eMn,G,eM⟩:=UR f hN;let T:=T0.drop j++T0.take j;obtain⟨g0,C,m2,o⟩:=PX (W:=[]) hN B j F eMn G (List.nil_sublist _) (by decide) (λw hw=>by cases hw) .nil;have C:T.length<=9:=C;have o:(gk T).length<=3:=o;have rne:gk T≠[]:=λz=>by
  have h:1<=(T.filter λt=>decide (t.k=.room)).length:=g0.r1;have:(gk T).length=0:=by rw[z];rfl
  unfold gk at this;rw[ae]at this;omega
 obtain⟨W,H,wo,wn,eW⟩:=XI f T M (by omega) (by omega) rne;obtain⟨m,E,eV⟩:=US f;let p:=λk=>decide (((gd l 29 / gd [1,4,16] k % 4:Nat):Int)=1);let d:=((aC (gk T).length).filter p).map λk=>(gk T).getD k "";have sub:=by have:=(lY (p:=p) (l:=aC (gk T).length)).map λk=>(gk T).getD k "";rw[XR]at this;exact this
 obtain⟨g,_,_,_⟩:=PX hN B j F eMn G sub H wo wn;obtain⟨RS,r4,ok,eR⟩:=UX g E y;refine#v[T,M,d,W,m,RS,g,λt ht=>UY B t ((Km T0 j).mem_iff.1 ht),C,m2,bz sub.length_le o,H,E,r4,ok,?_];let A:Sl:=.I X;let u:Sl:=.I (dl l);let n:Sl:=.I (.a3 (N.map D.str));let S:Sl:=.I (.a3 (T.map k?));let I:Sl:=.I (.a3 (M.map mkS));let R:Sl:=.I (.a3 ((gk T).map D.str));let K:Sl:=.I (.a3 ((mP T M).map pD));refine xV U ?_;refine vC (vT (vy (wj (vt (vv (vt U Y) U) el)) ?_));refine vC (vT (vy (vt U eN) ?_));refine vC (vT (vy (vt U eT) ?_));refine vC (vT (vy (vt U eM) ?_));refine vC (vT (vy (wj (of_eq T (by omega) U .room)) ?_));refine vC (vT (vy (vt U (Lx T M (by omega) (by omega))) ?_));refine vC (vT (vy (a:=.a3 (d.map D.str)) (b:=[A,u,n,S,I,R,K,.un,.un,.un]) (wj ((xx (λj:Nat=>D.int j) (λk=>.str ((gk T).getD k "")) p (aC (gk T).length) (Jp (Hy D.str U) (by omega)) (by rw[bL];omega) λk e=>?_).t (by rw[show d.map D.str=((aC (gk T).length).filter p).map λk=>.str ((gk T).getD k "") from aY];rfl))) ?_))
 .have e:=bB.1 e;obtain⟨J,P⟩:=g3 (cz e o);refine#v[[.I (dN k),R,u],[.I (dN k),R,u],U,we (vw (vw (vw (vw U U (zD (i:=29) (by omega))) (vw (x:=dl [1,4,16]) U U (zD (cz e o))) (dv J P)) U (md (by decide))) U ((xW δ _ _).t ?_)),λs=>#v[[.I (dN k),R,u],vw U U (DA e),U],λs=>U];cases h:p k<;>simp[p]at h<;>simp[h]
 refine vC (vT (vy (vt U eV) ?_));refine vC (vT (vy (vt (vv (vt U e1) U) eR) ?_));exact wy (vy (xu (vv U (vv U (vv U (vv (vt U eW) U)))) (bG U)) U)
def Z?(r:Rs):L4.D:=p? r.v.n (r.ts.map E?) (r.ds.map Hs) r.tx r.rf
def Y0(v:Str)(c a:List L4.D)(x:Str)(b:Bool):yd [.str v,.a3 c,.a3 a,.str x,.X b]=Z (ruN,[.str v,.a3 c,.a3 a,.str x,.X b]):=by kernel_rfl
def U0{T:List Th}{M:List Mk}{w:L4.D}{V:List Vb}{r:Rs}(h:Na T M w V r):D1 [T? r]=Z (Z? r):=by
 obtain⟨v,b,a,x,c⟩:=r;have lt:b.length<=2:=h.lt;have ld:a.length<=2:=h.ld;let A:Sl:=.I (T? #v[v,b,a,x,c]);let B:Sl:=.I (.str v.n);let C:Sl:=.I (.a3 (b.map A4));let e:Sl:=.I (.a3 (a.map M'));let E:Sl:=.I (.str x);let F:Sl:=.I (.X c);refine xV U ?_;refine vC (Lu (vy U #v[[A,B,C,e,E,F,.un],U,?_]));refine vC (vT (vy (wj (xq A4 E? b U (by omega) λt f=>#v[[.I (A4 t)],[.I (A4 t)],U,vt U (Gc t 3 (by have:=(h.t t f).2.1;omega)),U])) ?_));cases c with
 |false=>exact j2 U (wy (vy (FD (vv U (vv U (vv (wj (xq M' Hs a U (by omega) λd s=>#v[[.I (M' d)],[.I (M' d)],U,vt U (XJ d),U])) U))) (Y0 _ _ _ _ _)) U))
 |true=>have:=h.rf U;subst this;exact e4 U (wy (vy (FD U (Y0 _ _ _ _ _)) U))
def RB{RS:List Rs}(g:ea T M c W)(H:m<64)(r4:RS.length<=4)(ok:∀r∈RS,Na T M (fm T M c W (vL m)) (vL m) r):∃(u:List d?) (dss:List (List L4.D)),Di [PD T M c W m RS]=Z (.obj 14 wNs (wA T M c W (vL m) (RS.map Z?) (.i0 u (dss.map .a3))))/\∀j,gl u dss j=(RS.map Z?++SH (yN T) W).filter λd=>decide (kv d=j):=by
 obtain⟨u,dss,P,Q⟩:=UK g H (λr y=>by
  obtain⟨r,h,rfl⟩:=au.1 y;have o:=ok r h;exact XD (λv R=>D3 R) (M4 H) o.v (λt b=>by obtain⟨s,B,rfl⟩:=au.1 b;exact(o.t s B).1) (by rw[ae];have:=o.lt;omega) (λt b=>by obtain⟨s,B,rfl⟩:=au.1 b;exact(o.d s B).1) (by rw[ae];have:=o.ld;omega) (λz=>by rw[o.rf z];rfl) (XN o.x)) (by rw[ae];omega)
 refine#v[u,dss,?_,Q];have lT:=g.len;have lM:=g.m4;have lV:=BS m;let A:Sl:=.I (PD T M c W m RS);let S:Sl:=.I (.a3 (T.map k?));let l:Sl:=.I (.a3 (M.map mkS));let e:Sl:=.I (.a3 (c.map D.str));let a:Sl:=.I (.a3 (W.map l?));let q:Sl:=.I (.a3 ((vL m).map mu));let p:Sl:=.I (.a3 (RS.map T?));let J:=λ(i:Nat) (X:bc)=>∃C E F G:Sl,X=[A,S,l,e,a,q,p,.Y ((T.take i).map ey),C,E,F,G,.un,.un];refine xV U ?_;refine vC (Lu (vy U #v[[A,S,l,e,a,q,p,.un,.un,.un,.un,.un,.un,.un],U,?_]));refine vC (z8 U (vC (BU (vy U #v[J,#v[_,_,_,_,U],?_,?_]))))
 .rintro i d _ hd ⟨C,E,F,G,rfl⟩;rw[bg]at hd;obtain⟨t,b,rfl⟩:=dZ.1 hd;obtain⟨hi,Y⟩:=bY.1 b;have N:(T.take (i+1)).map ey=(T.take i).map ey++[ey t]:=by rw[gu,b,aX];rfl
  have I:((T.take i).map ey).length<1000:=by rw[ae,cv];omega
  obtain⟨n,w,k,s⟩:=t;cases s with
  |none=>refine#v[[A,S,l,e,a,q,p,.Y ((T.take i).map ey),.I (.str n),.I (.a7 (w.map D.str)),.I (.str k.s),.I .U,.un,.un],U,s_y U (D5 (vy (za U U U I) #v[_,_,_,_,by rw[N];rfl]))]
  |some x=>refine#v[[A,S,l,e,a,q,p,.Y ((T.take i).map ey),.I (.str n),.I (.a7 (w.map D.str)),.I (.str k.s),.I (.str x),.un,.un],U,s_n U (D5 (vy (za U U U I) #v[_,_,_,_,by rw[N];rfl]))]
 .rintro _ ⟨C,E,F,G,rfl⟩;rw[ae,mI];refine vC (vT (vy (wj (xq mkS D? M U (by omega) λx _=>#v[[.I (.str x.n),.I (.int x.st),.I (.int x.mo)],_,U,U,U])) ?_));refine vC (vT (vy (wj (xq mu k3 (vL m) U (by omega) λx _=>#v[[.I (.str x.n),.I (.a7 (x.o.map D.str)),.I (.str x.f),.I (oS x.j)],_,U,U,U])) ?_));refine wy (vy (FD (vv U (vv U (vv U (vv U (vv U (vv (wj (xq T? Z? RS U (by omega) λr y=>#v[[.I (T? r)],[.I (T? r)],U,vt U (U0 (ok r y)),U])) U)))))) ?_) U);exact P
abbrev Ky:=Str×Str
def kD(k:Ky):L4.D:=.a7 [.str k.1,.str k.2]
def sP(P:List Ky)(v:Ky->L4.D):L4.D:=.a7 (P.map λk=>.a7 [kD k,v k])
def P4(k j:Ky):cb δ (kD k) (kD j)=Z (.X (decide (k=j))):=by obtain⟨a,b⟩:=k;obtain⟨c,d⟩:=j;have e:Gu δ (.a7 [.str a,.str b]) (.a7 [.str c,.str d])=O:=rfl;have f:IB δ (.a7 [.str a,.str b]) (.a7 [.str c,.str d])=Z (.X (L3.oz (.a7 [.str a,.str b]) (.a7 [.str c,.str d]))):=rfl;unfold cb kD;rw[e];simp only;rw[f];congr 2;rw[d6];simp[L3.oz,L3.Ej]
theorem Jq(p:Sl)(k:Ky)(v:Ky->L4.D):∀(P:List Ky) (s:Sl),∃c,fu (gN 2) (eg (cT (c2 (cb δ) (c2 b3 ah av) ag)) (vA (c2 b3 ah az)) vG) (P.map λk=>.a7 [kD k,v k]) [p,.I (kD k),s]=Z (if k∈P then .rt (v k) [p,.I (kD k),c]else .nx [p,.I (kD k),c])
 |[],s=>#v[s,by rw[ak cg];rfl]
 |q::P,s=>by
  let Q:Sl:=.I (.a7 [kD q,v q]);have a:cT (c2 (cb δ) (c2 b3 ah av) ag) [p,.I (kD k),Q]=Z (decide (q=k),[p,.I (kD k),Q]):=we (vw U U (P4 _ _));rw[aV];unfold fu;rw[show gN 2 (.a7 [kD q,v q]) [p,.I (kD k),s]=Z [p,.I (kD k),Q] from U];by_cases h:q=k
  .rw[aS h]at a;refine#v[Q,?_];simp only[wB a];rw[aj (by rw[h];exact ba),<- h];rfl
  .rw[aP h]at a;obtain⟨c,d⟩:=Jq p k v P Q;refine#v[c,?_];simp only[w9 a,vG];rw[d];by_cases b:k∈P
   .rw[aj b,aj (a9 _ b)]
   .rw[ak b,ak λz=>by rcases aM.1 z with z|z;exact h z.symm;exact b z]
def Nc(P:List Ky)(v:Ky->L4.D)(k:Ky):CT [sP P v,kD k]=Z (if k∈P then v k else .U):=by
 obtain⟨b,h⟩:=Jq (.I (sP P v)) k v P .un;by_cases a:k∈P
 .rw[aj a]at h ⊢;exact vJ U (wg ((yV U).t h))
 .rw[ak a]at h ⊢;exact vJ U ((vz ((yV U).t h)))
def up(v:Ky->L4.D)(k:Ky)(d:L4.D):Ky->L4.D:=λq=>if q=k then d else v q
def P5(P:List Ky)(hP:P.length<=900)(v:Ky->L4.D)(k:Ky)(d:L4.D):Bu [sP P v,kD k,d]=Z (sP P (up v k d)):=by
 let a:bc:=[.I (sP P v),.I (kD k),.I d];refine vJ (ρ:=a) U (vS ?_);have e:cL (vE 1 [1,2] (iT aa) (gN 0) wH (mw (cT (c2 (cb δ) (c2 b3 aa av) ag)) (vQ cw) aa)) a=Z (.a3 (P.map λq=>.a7 [kD q,up v k d q]),a):=by
  refine wj (xq (λq:Ky=>.a7 [kD q,v q]) (λq=>.a7 [kD q,up v k d q]) P U (by omega) λq t=>#v[[.I (.a7 [kD q,v q]),.I (kD k),.I d],[.I (.a7 [kD q,v q]),.I (kD k),.I d],U,?_,U]);have b:cT (c2 (cb δ) (c2 b3 aa av) ag) [.I (.a7 [kD q,v q]),.I (kD k),.I d]=Z (decide (q=k),[.I (.a7 [kD q,v q]),.I (kD k),.I d]):=we (vw U U (P4 _ _));unfold mw up;rw[b];by_cases h:q=k
  .rw[aS h,aj h,h];rfl
  .rw[aP h,ak h];rfl
 show zp _ a=_;unfold zp;rw[e];rfl
def va(f?:Str->Str)(mk:Str->Int):Ky->L4.D:=λk=>if k.1="at" then .str (f? k.2)else .int (mk k.2)
def Hj{a:Type}(f:Str->a)(x:Str)(d:a):Str->a:=λy=>if y=x then d else f y
def ae7(f?:Str->Str)(mk:Str->Int)(x d:Str)(P:List Ky):sP P (up (va f? mk) ("at", x) (.str d))=sP P (va (Hj f? x d) mk):=by
 unfold sP;congr 1;refine jP λk t=>?_;obtain⟨a,y⟩:=k;unfold up va Hj;by_cases h:a="at"
 .subst h;by_cases b:y=x
  .subst b;simp
  .simp[b]
 .simp[h]
def ae8(f?:Str->Str)(mk:Str->Int)(x:Str)(d:Int)(P:List Ky)(hP:∀k∈P,k.1="at" \/ k.1="mark"):sP P (up (va f? mk) ("mark", x) (.int d))=sP P (va f? (Hj mk x d)):=by
 unfold sP;congr 1;refine jP λk b=>?_;have b:=hP k b;obtain⟨a,y⟩:=k;unfold up va Hj;rcases b with h|h
 .have h:=h;subst h;have:¬("at" : Str)="mark" := by decide
  simp[this]
 .have h:=h;subst h;have:¬("mark" : Str)="at" := by decide
  by_cases c:y=x
  .subst c;simp[this]
  .simp[c,this]
def getD_map{c d:Type}(f:c->d)(a:c)(b:d)(l:List c){i:Nat}(h:i<l.length):(l.map f).getD i b=f (l.getD i a):=by rw[bQ,bQ,bg,aO h];rfl
def OG{a:Type}(d:a):∀l:List a,(aC l.length).map (λi=>l.getD i d)=l:=λl=>by
 apply qF
 .rw[ae,bL]
 .intro i c b;rw[qG,pZ,bQ,aO b];rfl
def kL2(k:Ky):aB:=[k.1,k.2]
theorem Nd:∀P:List Ky,zH (P.map kD)=Z (P.map kL2)
 |[]=>rfl
 |q::P=>by rw[aV];unfold zH;rw[Nd P];rfl
def U1(P:List Ky)(a:0<P.length)(d:P.length<64):∃b:List Ky,b.Perm P/\EN (P.map kD)=Z (b.map kD):=by
 let c:Nat->Nat->Bool:=λi j=>JG ((P.map kL2).getD i []) ((P.map kL2).getD j []);refine#v[(Oh c P.length).map λi=>P.getD i ("", ""),?_,?_]
 .have:=(Gx c a).map λi=>P.getD i ("", "");rw[OG]at this;exact this
 .unfold EN;rw[Nd];simp only[ae];rw[aj #v[a,d],aY];congr 1;exact jP λi e=>getD_map kD ("", "") .U P (K1 c a i e)
def PT(T:List Th)(M:List Mk):List Ky:=((j1 T).map λx=>(("at", x):Ky))++(tj T M).map λx=>(("mark", x):Ky)
abbrev wO(T:List Th)(M:List Mk)(dk:aB)(W:List Wy)(V:List Vb)(R:List L4.D)(c:L4.D):L4.D:=.obj 14 wNs (wA T M dk W V R c)
section
variable{T:List Th}{V:List Vb}{P:List Ky}
def U2(T:List Th):(j1 T).length<=T.length:=by unfold j1;rw[ae];exact cy _ _
def U3(T:List Th)(M:List Mk):(tj T M).length<=T.length+M.length:=by unfold tj;rw[aA,ae,ae];have:=cy (λt:Th=>t.k.mk) T;omega
def LA{T:List Th}(b:(T.map Th.n).Nodup)(c:t∈T)(d:u∈T)(e:t.n=u.n):t=u:=by
 induction T with
 |nil=>cases c
 |cons a T f=>
  rw[aV,dM]at b;rcases aM.1 c with h1|h1<;>rcases aM.1 d with h2|h2
  .rw[h1,h2]
  .exact aq (show a.n∈T.map Th.n from by rw[<-h1,e];exact au.2 #v[_,h2,U]) b.1
  .exact aq (show a.n∈T.map Th.n from by rw[<-h2,<- e];exact au.2 #v[_,h1,U]) b.1
  .exact f b.2 h1 h2
def LB(c:(T.map Th.n).Nodup)(p:Th->Bool)(b:t∈T):t.n∈(T.filter p).map Th.n ↔ p t=γ:=by
 constructor
 .intro h;obtain⟨u,a,e⟩:=au.1 h;rw[aQ]at a;rw[<-LA c a.1 b e];exact a.2
 .exact λh=>au.2 #v[t,aQ.2 #v[b,h],U]
def Y1(g:ea T M b W):(yN T)∈j1 T:=by obtain⟨t,a,e,k⟩:=y_T g;rw[<-e];exact(LB g.t? _ a).2 (by rw[k];rfl)
def OH(g:ea T M a W):0<(PT T M).length/\(PT T M).length<64:=by have b:=U2 T;have c:=U3 T M;have d:=i3 (Y1 g);have e:=g.len;have f:=g.m4;unfold PT;rw[aA,ae,ae];omega
def U4(h:P.Perm (PT T M))(x:Str):(("at", x):Ky)∈P ↔ x∈j1 T:=by
 rw[h.mem_iff];unfold PT;rw[aZ,au,au];constructor
 .rintro(⟨y,a,e⟩|⟨y,a,e⟩)
  .injection e with _ e;rw[<-e];exact a
  .injection e with e _;exact aq e (by decide)
 .exact λh=>.inl #v[x,h,U]
def Y2(h:P.Perm (PT T M))(x:Str):(("mark", x):Ky)∈P ↔ x∈tj T M:=by
 rw[h.mem_iff];unfold PT;rw[aZ,au,au];constructor
 .rintro(⟨y,a,e⟩|⟨y,a,e⟩)
  .injection e with e _;exact aq e (by decide)
  .injection e with _ e;rw[<-e];exact a
 .exact λh=>.inr #v[x,h,U]
def Y3(h:P.Perm (PT T M)):∀k∈P,k.1="at" \/ k.1="mark" := λk a=>by
 have a:=h.mem_iff.1 a;unfold PT at a;rw[aZ,au,au]at a;rcases a with ⟨y,_,rfl⟩|⟨y,_,rfl⟩
 .exact .inl U
 .exact .inr U
def RD(g:ea T M h W):∃f:List Ky,f.Perm (PT T M)/\EN ((PT T M).map kD)=Z (f.map kD)/\BN [wO T M h W V R c]=Z (.a3 (f.map kD)):=by
 have hT:=g.len;have hM:=g.m4;obtain⟨m,o⟩:=OH g;obtain⟨f,pR,e⟩:=U1 (PT T M) m o;refine#v[f,pR,e,?_];let w:=wO T M h W V R c;let a:L4.D:=.a3 ((j1 T).map λx=>kD ("at", x));let b:L4.D:=.a3 ((tj T M).map λx=>kD ("mark", x));let d:Sl->Sl->bc:=λp q=>[.I w,p,q];have r:=U2 T;have u:=U3 T M;have i:vE 1 [] (iL (c1 (vF xK "kept_things") aa)) (gN 0) (cT (c2 (cb γ) (c1 (vF wz "kind") aa) cH)) (vQ (ax gZ n8)) (d .un .un)=Z ((T.filter λt=>!decide (t.k=.room)).map λt=>kD ("at", t.n),d .un .un):=
  xx ey (λt=>kD ("at", t.n)) (λt=>!decide (t.k=.room)) T U (by omega) λt s=>#v[[.I (ey t)],[.I (ey t)],U,we (vw (wt U (BQ t)) U (YZ t.k)),λs=>#v[_,U,U],λs=>U]
 have j:vE 1 [] (iL (cL (wx zw sQ))) (gN 0) wH (vQ (ax kK bJ)) (d (.I a) .un)=Z ((tj T M).map λx=>kD ("mark", x),d (.I a) .un):=
  xq D.str (λx=>kD ("mark", x)) (tj T M) (Cj (wj (vt U (EB T M (by omega) hM)))) (by omega) λx s=>#v[[.I (.str x)],[.I (.str x)],U,U,U]
 have l:GE (cL (xt ag ah)) (d (.I a) (.I b))=Z (f.map kD,d (.I a) (.I b)):=by
  have q:cL (xt ag ah) (d (.I a) (.I b))=Z (.a3 ((PT T M).map kD),d (.I a) (.I b)):=by refine(wj (xw U U (by rw[ae,ae];omega))).t ?_;unfold PT;rw[aX,aY,aY];rfl
  unfold GE;rw[q];simp only[e]
 refine BF (ρ:=d (.I a) (.I b)) U ?_;refine(vz ((wV (wj i)).t ?_)).t ((vz ((wV (wj j)))).t (xF l));show Z (A5.nx [Sl.I w,.I (.a3 ((T.filter λt=>!decide (t.k=.room)).map λt=>kD ("at", t.n))),.un])=Z (A5.nx [Sl.I w,.I (.a3 (((T.filter λt=>!decide (t.k=.room)).map Th.n).map λx=>kD ("at", x))),.un]);rw[aY];rfl
def z9(b:(T.map Th.n).Nodup)(a:t∈T):x4 [wO T M d W V R c,.str t.n]=Z (ey t):=by refine vJ U (vS (vw U U ?_));show Z ((xn (nK T) (T.map ey) (kS t.n)).getD .U)=_;rw[F7 b ey a];rfl
def RE(g:ea T M d W):CS [wO T M d W V R c]=Z (.i0 (M.map λm=>kS m.n) (M.map λm=>D.int m.st)):=by
 let w:=wO T M d W V R c;have l:((M.map λm=>kS m.n)).Nodup:=by have:=(cu.1 g.nd).2.1;rw[show (λm:Mk=>kS m.n)=kS∘Mk.n from U,<- aY];exact mB.2 (this.imp λh e=>h (Ov e))
 have r:=g.m4;obtain⟨o,e⟩:=Cg (g:=gN 2) (i:=1) (fk:=c1 (vF vY "name") ah) (fv:=c1 (vF xi "start") ah) D? Mk.n (λm=>D.int m.st) (λb a s=>[.I w,.dk b a,s])
  (λm b a s=>#v[[.I w,.dk b a,.I (D? m)],U,U,U,U,λj f=>#v[_,U]]) M [] [] .un (by rw[cD];exact l) (by simp;omega) U
 rw[cD,cD]at e;refine vJ (ρ:=[.I w,.I (.i0 (M.map λm=>kS m.n) (M.map λm=>D.int m.st)),o]) U ?_;refine(vz U).t ?_;refine(vz ((yV ?_).t e));exact Cj (wb U U U U U)
def U5(g:ea T M a W)(b:t∈T)(st:L4.D):yZ [wO T M a W V R c,st,kD ("at", t.n)]=Z (oS t.s):=by refine vJ U (wg ((wB (we (vw U U (by rw[xk];rfl)))).t (vS (wt (wb U U U U (z9 g.t? b)) (HR t)))))
def OI(x:Str)(b:List d?)(a:List L4.D):yZ [wO T M d W V R c,.i0 b a,kD ("mark", x)]=Z ((xn b a (kS x)).getD (.int 0)):=by refine vJ U ((vz ((w9 (we (vw U U (by rw[xk];rfl)))))).t U)
theorem Nf{c:Type}(kf:c->d?)(b:c->Int)(k:d?):∀l:List c,∃z,(xn (l.map kf) (l.map λa=>D.int (b a)) k).getD (.int 0)=.int z
 |[]=>#v[0,U]
 |a::l=>by
  rw[aV,aV];unfold xn;split
  .exact#v[b a,U]
  .exact Nf kf b k l
def at0(T:List Th)(x:Str):Str:=((T.find? λt=>decide (t.n=x)).bind Th.s).getD ""
def LC(b:(T.map Th.n).Nodup)(a:t∈T):at0 T t.n=t.s.getD "" := by
 unfold at0;cases h:T.find? λu=>decide (u.n=t.n)with
 |none=>exact aq (l8.1 h t a) (by simp)
 |some u=>rw[LA b (lh h) a (bh (mO (p:=λu:Th=>decide (u.n=t.n)) h))];rfl
def P6(g:ea T M l W)(i:t∈T)(h:t.k≠.room):∃p,t.s=Z p/\p∈n? T/\(t.k=.you->p∈gk T):=by
 have a:=g.st t i;unfold F6 at a;have j:∀p,p∈gk T->p∈n? T:=λp f=>by obtain⟨u,c,e⟩:=au.1 f;rw[aQ]at c;exact au.2 #v[u,aQ.2 #v[c.1,by rw[bh c.2];rfl],e]
 cases d:t.s with
 |none=>rw[d]at a;cases b:t.k<;>rw[b]at a h<;>first|exact aq U h|exact a.elim
 |some p=>rw[d]at a;refine#v[p,U,?_];cases b:t.k<;>rw[b]at a h<;>first|exact aq U h|exact#v[j p a,λ_=>a]|exact#v[a,λz=>by cases z]
def Ng(g:ea T M l W):∃(P:List Ky) (m:Str->Int),P.Perm (PT T M)/\EN ((PT T M).map kD)=Z (P.map kD)/\BN [wO T M l W V R c]=Z (.a3 (P.map kD))/\(∀x,(xn (M.map λm=>kS m.n) (M.map λm=>D.int m.st) (kS x)).getD (.int 0)=.int (m x))/\xT [wO T M l W V R c]=Z (sP P (va (at0 T) m)):=by
 obtain⟨i,pR,eS,eR⟩:=RD g;have d:∀x,∃z,(xn (M.map λm=>kS m.n) (M.map λm=>D.int m.st) (kS x)).getD (.int 0)=.int z:=λx=>Nf (λm:Mk=>kS m.n) Mk.st (kS x) M;refine#v[i,λx=>(d x).choose,pR,eS,eR,λx=>(d x).choose_spec,?_];let w:=wO T M l W V R c;let st:L4.D:=.i0 (M.map λm=>kS m.n) (M.map λm=>D.int m.st);have hR:i.length<64:=by rw[pR.length_eq];exact(OH g).2
 have val:∀k∈i,yZ [w,st,kD k]=Z (va (at0 T) (λx=>(d x).choose) k):=λk j=>by
  obtain⟨a,x⟩:=k;rcases Y3 pR _ j with h|h
  .have h:a="at" := h;subst h;have q:=(U4 pR x).1 j;obtain⟨t,b,rfl⟩:=au.1 q;rw[aQ]at b;obtain⟨p,o,_⟩:=P6 g b.1 (λz=>by rw[z]at b;exact aq b.2 (by decide));rw[U5 g b.1];unfold va;rw[aj U,LC g.t? b.1,o];rfl
  .have h:a="mark" := h;subst h;rw[OI,(d x).choose_spec];unfold va;rw[ak (show ¬("mark" : Str)="at" by decide)]
 let f:bc:=[.I w,.I st];refine vJ (ρ:=f) U ((vz ((wV (vt U (RE g))))).t (vS ?_));have e:=xq (k:=1) (d3:=[0,1]) (g:=gN 0) (fe:=vQ tP) (s:=iL (vU Bs "parts" aa vP)) (ρ:=f) kD (λk=>.a7 [kD k,va (at0 T) (λx=>(d x).choose) k]) i
  (Cj (wb U U U U eR)) (by omega) λk j=>#v[[.I (kD k),.I w,.I st],[.I (kD k),.I w,.I st],U,xu (vv U (vv (vt U (val k j)) U)) (show 2<=1000 by decide),U]
 show zp _ f=_;unfold zp;rw[wj e];rfl
end
inductive Ch(T:List Th) (a:Str->Str):Str->aB->Prop
 |nil {x:Str} (h:x∉j1 T):Ch T a x []
 |cons {x:Str} {l:aB} (h:x∈j1 T) (c:Ch T a (a x) l):Ch T a x (a x::l)
structure b0(T:List Th)(a:Str->Str):Prop where
 me:a (yN T)∈gk T
 hd:∀x∈j1 T,a x∈n? T
 ch:∀x,∃l,Ch T a x l
section
variable{V:List Vb}
def acR(h:Ch T a x l):Ch T a x c->l=c:=by
 induction h generalizing c with
 |nil h=>intro b;cases b with
  |nil _=>rfl
  |cons b _=>exact aq b h
 |cons h _ e=>intro b;cases b with
  |nil b=>exact aq h b
  |cons _ d=>rw[e d]
def acS(h:Ch T a x l):∀y∈l,∃c,Ch T a y c/\c.length<l.length:=by
 induction h with
 |nil _=>intro y b;cases b
 |@cons x l h d i=>
  intro y b;rcases aM.1 b with e|b
  .rw[e];exact#v[l,d,by rw[aU];omega]
  .obtain⟨c,f,j⟩:=i y b;exact#v[c,f,by rw[aU];omega]
def XS(h:Ch T a x l):x∉l:=λd=>by obtain⟨e,c,b⟩:=acS h x d;rw[acR h c]at b;exact fS _ b
def ae9(h:Ch T a x l):l.Nodup:=by
 induction h with
 |nil _=>exact mU
 |@cons x l h d b=>exact dM.2 #v[XS d,b]
def Y4(i:b0 T a)(h:Ch T a x l):∀y∈l,y∈n? T:=by
 induction h with
 |nil _=>intro y b;cases b
 |@cons x l h d c=>
  intro y b;rcases aM.1 b with e|b
  .rw[e];exact i.hd x h
  .exact c y b
theorem U6:∀{l L:aB},l.Nodup->(∀x∈l,x∈L)->l.length<=L.length
 |[],L,_,_=>bR _
 |a::l,L,b,d=>by rw[dM]at b;have c:=d a ba;have:=U6 b.2 λz e=>(pe (show z≠a from λw=>b.1 (w▸e))).2 (d z (a9 _ e));rw[oN c]at this;have:=i3 c;rw[aU];omega
def OJ(g:ea T M b W)(i:b0 T a)(h:Ch T a x l):l.length<=13:=by
 have c:=U6 (ae9 h) (Y4 i h);have d:(n? T).length<=T.length:=by unfold n?;rw[ae];exact cy _ _
 have:=g.len;omega
def XT(h:Ch T a w l):w≠x->x∉l->Ch T (Hj a x b) w l:=by
 induction h with
 |nil h=>intro _ _;exact .nil h
 |@cons w l h d j=>intro i f;have e:Hj a x b w=a w:=ak i;have c:=j (λz=>f (by rw[z];exact ba)) λz=>f (a9 _ z);rw[<-e]at c ⊢;exact .cons h c
def b0.mv(g:ea T M dk W)(i:b0 T a)(o:x∈j1 T)(hb:b∈n? T)(hm:x=(yN T)->b∈gk T)(h1:b≠x)(j:Ch T a b f)(h2:x∉f):b0 T (Hj a x b) where
 me:=by
  unfold Hj;by_cases e:(yN T)=x
  .rw[aj e];exact hm e.symm
  .rw[ak e];exact i.me
 hd:=λy p=>by
  unfold Hj;by_cases e:y=x
  .rw[aj e];exact hb
  .rw[ak e];exact i.hd y p
 ch:=λw=>by
  have cx:Ch T (Hj a x b) x (Hj a x b x::f):=.cons o (by rw[show Hj a x b x=b from aj U];exact XT j h1 h2);obtain⟨l,h⟩:=i.ch w
  induction h with
  |nil h=>exact#v[_,.nil h]
  |@cons w l h d q=>
   by_cases e:w=x
   .rw[e];exact#v[_,cx]
   .obtain⟨r,c⟩:=q;have m:Hj a x b w=a w:=ak e;rw[<-m]at c;exact#v[_,.cons h c]
def P7(p:P.Perm (PT T M))(x:Str):Bt [sP P (va a m),.str x]=Z (if x∈j1 T then .str (a x)else .U):=by
 refine vJ U (vS (vt U ((Nc P (va a m) ("at", x)).t ?_)));congr 1;by_cases h:x∈j1 T
 .rw[aj h,aj ((U4 p x).2 h)];unfold va;rw[aj U]
 .rw[ak h,ak λz=>h ((U4 p x).1 z)]
def LD(p:P.Perm (PT T M))(x:Str):AE [sP P (va a m),.str x]=Z (if x∈tj T M then .int (m x)else .U):=by
 refine vJ U (vS (vt U ((Nc P (va a m) ("mark", x)).t ?_)));congr 1;by_cases h:x∈tj T M
 .rw[aj h,aj ((Y2 p x).2 h)];unfold va;rw[ak (show ¬("mark" : Str)="at" by decide)]
 .rw[ak h,ak λz=>h ((Y2 p x).1 z)]
def aD(T:List Th)(a:Str->Str)(x:Str):L4.D:=if x∈j1 T then .str (a x)else .U
def RF(p:P.Perm (PT T M))(w c:Sl)(h:Ch T a x l):∀(n:Nat) (b:List L4.D),l.length<n->b.length+l.length<=1000->
  whL (cT (c2 yn aG aN)) (a0 (wc (zT 3 aG)) (vN 4 (vx Bt k7))) n [w,.I (sP P (va a m)),c,.Y b,.I (aD T a x)]=Z (.nx [w,.I (sP P (va a m)),c,.Y (b++l.map D.str),.I .U]):=by
 let S:=sP P (va a m)
 induction h with
 |@nil x h=>
  intro n b e _;rw[show aD T a x=.U from ak h];cases n with
  |zero=>cases e
  |succ n=>rw[eA,cf];rfl
 |@cons x l h d j=>
  intro n b e i;rw[show aD T a x=.str (a x) from aj h];rw[aU]at e i;cases n with
  |zero=>cases e
  |succ n=>
   have f:a0 (wc (zT 3 aG)) (vN 4 (vx Bt k7)) [w,.I S,c,.Y b,.I (.str (a x))]=Z (.nx [w,.I S,c,.Y (b++[.str (a x)]),.I (aD T a (a x))]):=by refine(vz (xP ((za U U U (by omega))))).t ?_;exact(wV (vt U (P7 p (a x)))).t U
   rw[aV];unfold whL;rw[show cT (c2 yn aG aN) [w,.I (sP P (va a m)),c,.Y b,.I (.str (a x))]=Z (γ,[w,.I S,c,.Y b,.I (.str (a x))]) from U];simp only[f];refine(j n (b++[.str (a x)]) (by omega) (by rw[aA,cU];omega)).t ?_;rw[b9];rfl
def LF(p:P.Perm (PT T M))(w:L4.D)(h:Ch T a x l)(b:l.length<=13):yP [w,sP P (va a m),.str x]=Z (l.map D.str):=by let S:=sP P (va a m);refine Ab (ρ:=[.I w,.I S,.I (.str x),.un,.I .U]) U ?_;refine(vz U).t ?_;refine(vz ((wV (vt U (P7 p x))))).t ?_;exact(vz (RF p (.I w) (.I (.str x)) h 50 [] (by omega) (by simp;omega)))
def acT(p:P.Perm (PT T M))(h:Ch T a x l)(b:l.length<=13):Uq [wO T M d W V R c,sP P (va a m),.str x]=Z (.X (decide ((yN T)∈l))):=by refine vJ U (vS (vw (wb U U U U U) (wj (vt U (LF p _ h b))) (yX δ _ _)))
def inv0(g:ea T M dk W):b0 T (at0 T) where
 me:=by obtain⟨t,a,e,k⟩:=y_T g;obtain⟨q,h1,_,h2⟩:=P6 g a (by rw[k];exact λz=>by cases z);rw[<-e,LC g.t? a,h1];exact h2 k
 hd:=λx b=>by obtain⟨t,a,rfl⟩:=au.1 b;rw[aQ]at a;obtain⟨q,h1,h2,_⟩:=P6 g a.1 (λz=>by rw[z]at a;exact aq a.2 (by decide));rw[LC g.t? a.1,h1];exact h2
 ch:=λx=>by
  obtain⟨r,hr⟩:=g.rk;have:∀(n:Nat) (x:Str),r x<n->∃l,Ch T (at0 T) x l:=by
   intro n
   induction n with
   |zero=>intro x h;cases h
   |succ n c=>
    intro x h;by_cases b:x∈j1 T
    .obtain⟨t,a,rfl⟩:=au.1 b;rw[aQ]at a;obtain⟨q,h1,_,_⟩:=P6 g a.1 (λz=>by rw[z]at a;exact aq a.2 (by decide));have e:at0 T t.n=q:=by rw[LC g.t? a.1,h1];rfl
     have h2:=((hr t a.1).2 q h1).1;obtain⟨l,d⟩:=c q (by omega);rw[<-e]at d;exact#v[_,.cons b d]
    .exact#v[_,.nil b]
  exact this (r x+1) x (by omega)
end
def Aa(b:e ρ=Z (.X δ,a)):wU e c ρ=Z (.X δ,a):=by unfold wU;rw[b]
section
variable{V:List Vb}
structure sh(T:List Th)(M:List Mk)(dk:aB)(W:List Wy)(P:List Ky)(a:Str->Str):Prop where
 g:ea T M dk W
 p:P.Perm (PT T M)
 i:b0 T a
def afb(h:x∈n? T):∃t∈T,t.n=x/\t.k.hd=γ:=by obtain⟨t,a,e⟩:=au.1 h;rw[aQ]at a;exact#v[t,a.1,e,a.2]
def Y5(g:ea T M b W)(a:t∈T):t.n∈tj T M ↔ t.k.mk=γ:=by
 unfold tj;rw[aZ,LB g.t? _ a];constructor
 .rintro(h|h)
  .exact h
  .exact aq U ((cu.1 g.nd).2.2 _ (au.2 #v[t,a,U]) _ h)
 .exact .inl
def P8(t:Th)(k:Kd):cb δ (.str t.k.s) (.str k.s)=Z (.X (decide (t.k=k))):=F3 t.k k
def XU(s:sh T M e W P a)(j:x∈n? T):∃b,zM [wO T M e W V R c,sP P (va a m),.str x]=Z (.X b):=by
 obtain⟨t,f,rfl,_⟩:=afb j;let i:bc:=[.I (wO T M e W V R c),.I (sP P (va a m)),.I (.str t.n)];have d:c2 (cb δ) (c1 (vF wz "kind") (vU v7 "thing_of" aa ck)) dU i=Z (.X (decide (t.k=.box)),i):=
  vw (wt (wb U U U U (z9 s.g.t? f)) (BQ t)) U (P8 t .box)
 by_cases h:t.k=.box
 .rw[aS h]at d;refine#v[decide (m t.n=0),vJ U (vS ((vR d).t (vw (vt U ((LD s.p t.n).t (by rw[aj ((Y5 s.g f).2 (by rw[h];rfl))]))) U ?_)))];rw[xW];rfl
 .rw[aP h]at d;exact#v[δ,vJ U (vS (Aa d))]
def opn(b:Str->Bool)(h:Str):aB->Bool
 |[]=>δ
 |a::l=>if a=h then γ else if b a then δ else opn b h l
def U7{b:Str->Bool}{h a:Str}{l:aB}:opn b h (a::l)=if a=h then γ else if b a then δ else opn b h l:=rfl
def oB:FS:=(a0 (eg (cT (c2 (cb δ) aG ay)) (vA dg) vG)
 (eg (cT (vx zM ou)) (vA cj) vG))
theorem Ko{w st x:L4.D}{d:Str->Bool}(h:Str):∀(l:aB) (s:Sl),(∀a∈l,zM [w,st,.str a]=Z (.X (d a)))->∃j,fu (gN 4) oB (l.map D.str) [.I w,.I st,.I x,.I (.str h),s]=Z (.rt (.X (opn d h l)) [.I w,.I st,.I x,.I (.str h),j])\/(opn d h l=δ/\fu (gN 4) oB (l.map D.str) [.I w,.I st,.I x,.I (.str h),s]=Z (.nx [.I w,.I st,.I x,.I (.str h),j]))
 |[],s,_=>#v[s,.inr #v[U,U]]
 |a::l,s,o=>by
  let c:bc:=[.I w,.I st,.I x,.I (.str h),.I (.str a)];have e:cT (c2 (cb δ) aG ay) c=Z (decide (a=h),c):=we (vw U U (xk δ a h));have f:cT (vx zM ou) c=Z (d a,c):=we (vt U (o a ba));rw[aV];unfold fu;rw[show gN 4 (.str a) [.I w,.I st,.I x,.I (.str h),s]=Z c from U];rw[U7];by_cases i:a=h
  .rw[aS i]at e;rw[aj i];refine#v[.I (.str a),.inl ?_];have m:oB c=Z (.rt (.X γ) c):=wg ((wB e));simp only[m];rfl
  .rw[aP i]at e;rw[ak i];have m:oB c=_:=vz ((w9 e));simp only[m];cases q:d a with
   |true=>rw[q]at f;refine#v[.I (.str a),.inl ?_];simp only[(wB f).t (U:vA cj c=Z (.rt (.X δ) c)),if_true];rfl
   |false=>rw[q]at f;obtain⟨j,g⟩:=Ko h l (.I (.str a)) λb p=>o b (a9 _ p);refine#v[j,?_];simp only[(w9 f).t (U:vG c=Z (.nx c)),gp,if_false];exact g
def LG(s:sh T M j W P a)(x h:Str):∃b,zN [wO T M j W V R c,sP P (va a m),.str x,.str h]=Z (.X b):=by
 obtain⟨l,d⟩:=s.i.ch x;have r:∀y:Str,∃b:Bool,y∈n? T->zM [wO T M j W V R c,sP P (va a m),.str y]=Z (.X b):=λy=>by
  by_cases f:y∈n? T
  .obtain⟨b,e⟩:=XU s f;exact#v[b,λ_=>e]
  .exact#v[δ,λz=>aq z f]
 refine#v[opn (λy=>(r y).choose) h l,?_];obtain⟨u,q⟩:=Ko h l .un λy f=>(r y).choose_spec (Y4 s.i d y f);have o:=wj (vt (a:=ax aa cw) (ρ:=[.I (wO T M j W V R c),.I (sP P (va a m)),.I (.str x),.I (.str h),.un]) U (LF s.p _ d (OJ s.g s.i d)));rcases q with q|⟨t,q⟩
 .exact vJ U (wg ((yV (Cj o)).t q))
 .rw[t];exact vJ U ((vz ((yV (Cj o)).t q)))
def LH(s:sh T M b W P a):AF [wO T M b W V R c,sP P (va a m)]=Z (.str (a (yN T))):=
 vJ U (vS (vt (vv U (vv (wb U U U U U) U)) ((P7 s.p (yN T)).t (by rw[aj (Y1 s.g)]))))
def U8(s:sh T M e W P a)(j:t∈T)(i:t.k=.lamp)(r:Str):∃b,A8 [wO T M e W V R c,sP P (va a m),.str t.n,.str r]=Z (.X b):=by
 let f:bc:=[.I (wO T M e W V R c),.I (sP P (va a m)),.I (.str t.n),.I (.str r)];have d:c2 (cb δ) (vx AE cw) az f=Z (.X (decide (m t.n=1)),f):=vw (vt U ((LD s.p t.n).t (by rw[aj ((Y5 s.g j).2 (by rw[i];rfl))]))) U (by rw[xW];rfl);obtain⟨b,h⟩:=LG s t.n r;cases q:decide (m t.n=1)with
 |true=>rw[q]at d;exact#v[b,vJ U (vS ((vR d).t (vt U h)))]
 |false=>rw[q]at d;exact#v[δ,vJ U (vS (Aa d))]
def U9(s:sh T M d W P a):∃b,FW [wO T M d W V R c,sP P (va a m)]=Z (.X b):=by
 let w:=wO T M d W V R c;let r:=a (yN T);let S:=sP P (va a m);let i:bc:=[.I w,.I S,.I (.str r)];have p:vN 2 (vx AF cI) [.I w,.I S,.un]=Z (.nx i):=(wV (vt U (LH s))).t U;have j:xm (cT (vU zQ "is_dark" aa ck)) i=Z (!decide (r∈d),i):=yL (we (wb U U U U (vJ U (vS (vw U U (yX δ r d))))));cases q:decide (r∈d)with
 |false=>rw[q]at j;exact#v[γ,vJ U ((vz p).t (wg ((wB j))))]
 |true=>
  rw[q]at j;have x:=s.g.len;let L:=T.filter λt=>decide (t.k=.lamp);have o:∀t:Th,∃b:Bool,t∈L->A8 [w,S,.str t.n,.str r]=Z (.X b):=λt=>by
   by_cases l:t∈L
   .have h:=aQ.1 l;obtain⟨b,e⟩:=U8 s h.1 (bh h.2) r;exact#v[b,λ_=>e]
   .exact#v[δ,λz=>aq z l]
  have u:vE 1 [0,1,2] (iL (vU yY "of_kind" aa (a1 f7))) (gN 0) wH (vx A8 tG) i=Z (L.map λt=>D.X (o t).choose,i):=by have f:L.length<=1000:=bz (cy _ _) (by omega);exact xq (λt:Th=>D.str t.n) (λt=>D.X (o t).choose) L (Cj (wb U U U U (Jj T (by omega) _ _ .lamp))) f λt l=>#v[[.I (.str t.n),.I w,.I S,.I (.str r)],[.I (.str t.n),.I w,.I S,.I (.str r)],U,vt U ((o t).choose_spec l),U]
  exact#v[_,vJ U ((vz p).t ((vz ((w9 j))).t (vS (wt (wj u) (Pp _ _)))))]
def LI(s:sh T M l W P a)(x:t∈T):∃b,xD [wO T M l W V R c,sP P (va a m),.str t.n]=Z (.X b):=by
 let w:=wO T M l W V R c;let S:=sP P (va a m);let d:bc:=[.I w,.I S,.I (.str t.n),.I (ey t)];have f:vN 3 (vU v7 "thing_of" aa ck) [.I w,.I S,.I (.str t.n),.un]=Z (.nx d):=(wV (wb U U U U (z9 s.g.t? x))).t U;have e:xG (cT (c2 zF ay aN)) (xm (cT (vU wR "is_plainly" ay vP))) d=Z (!t.k.pl,d):=yD U (yL (we (wb U U U U (F4 t))));obtain⟨i,q⟩:=LG s t.n (yN T);obtain⟨j,r⟩:=LG s t.n (a (yN T));obtain⟨y,u⟩:=U9 s;have h:cT (vx zN sS) d=Z (i,d):=we (vt (vv U (vv U (vv U (vv (wb U U U U U) U)))) q);have o:vx zN tE d=Z (.X j,d):=vt (vv U (vv U (vv U (vv (vt U (LH s)) U)))) r;cases p:t.k.pl with
 |false=>rw[p]at e;exact#v[_,vJ U ((vz f).t (wg ((wB e))))]
 |true=>
  rw[p]at e;cases i with
  |true=>exact#v[_,vJ U ((vz f).t ((vz ((w9 e))).t (wg ((wB h)))))]
  |false=>
   cases j with
   |true=>exact#v[_,vJ U ((vz f).t ((vz ((w9 e))).t ((vz ((w9 h))).t (vS ((vR o).t (vt U u))))))]
   |false=>exact#v[_,vJ U ((vz f).t ((vz ((w9 e))).t ((vz ((w9 h))).t (vS (Aa o)))))]
def XW(S:L4.D):xD [wO T M a W V R c,S,.U]=Z (.X δ):=by let w:=wO T M a W V R c;let d:bc:=[.I w,.I S,.I .U,.I .U];have b:vN 3 (vU v7 "thing_of" aa ck) [.I w,.I S,.I .U,.un]=Z (.nx d):=(wV (wb U U U U (by rfl))).t U;exact vJ U ((vz b).t (wg ((wB U))))
end
section
variable{V:List Vb}
def nf(v:Vb):Str×Str:=(v.n,v.f)
def Ms(W:List Wy):aB:=wQ (t9 (W.map Wy.w))
theorem Y6:∀(l acc:aB),(l.foldl (λacc k=>if k∈acc then acc else acc++[k]) acc).length<=acc.length+l.length
 |[],acc=>aI _
 |x::l,acc=>by
  rw[jj,aU];refine bz (Y6 l (if x∈acc then acc else acc++[x])) ?_;split
  .omega
  .rw[aA,cU];omega
def P9(g:ea T M a W):(Ms W).length<=8:=by show (wQ (t9 (W.map Wy.w))).length<=8;rw[show (wQ (t9 (W.map Wy.w))).length=_ from(dy _ sm).length_eq];have:=Y6 (W.map Wy.w) [];rw[ae]at this;exact bz this (by rw[dD,iy];exact g.w8)
def LJ(hW:W.length<=60):Br [wO T M dk W V R c]=Z (.a3 ((Ms W).map D.str)):=by let a:bc:=[.I (wO T M dk W V R c)];refine BF (ρ:=a) U (xF ?_);have e:cL (vE 1 [] (iL (c1 (vF BG "kept_ways") aa)) (gN 0) wH (c2 b3 aa az)) a=Z (.a3 ((W.map Wy.w).map D.str),a):=(wj (xq l? (λw=>.str w.w) W U (by omega) λw s=>#v[[.I (l? w)],[.I (l? w)],U,U,U])).t (by rw[aY];rfl);show q? _ a=_;unfold q?;rw[e];dsimp only;rw[Ck];dsimp only;rw[aj (by rw[ae];omega)];rfl
def oy(T:List Th):aB:=(T.filter λt=>t.k.pl).map Th.n
def Kp(T:List Th)(b:T.length<=13):Ey [wO T M a W V R c]=Z (.a3 (T.map λt=>.str t.n)):=by exact BF U (xF (xq ey (λt=>.str t.n) T U (by omega) λt s=>#v[[.I (ey t)],[.I (ey t)],U,U,U]))
def GY(e:f ρ=Z (.rn b a)):a0 f h ρ=Z (.rn b a):=by unfold a0;rw[e]
def obF(N c:aB)(f:Str):List (L4.D×L4.D):=if f="alone" then [(.U,.U)]else if f="way" then c.map λx=>(.str x,.U)else if f="one" then N.map λx=>(.str x,.U)else N.flatMap λa=>N.map λb=>(.str a,.str b)
def p2(q:L4.D×L4.D):L4.D:=.a7 [q.1,q.2]
def p3(v:Str)(q:L4.D×L4.D):L4.D:=.a7 [.str v,q.1,q.2]
theorem Qa(N:aB)(hN:N.length<=7):∀l:aB,(l.flatMap λa=>N.map λb=>(D.str a,D.str b)).length<=7 * l.length
 |[]=>aI _
 |a::l=>by rw[gv,aA,ae,aU];have:=Qa N hN l;omega
def acU{N a:aB}(hN:N.length<=7)(hD:a.length<=8)(f:Str):(obF N a f).length<=49:=by
 unfold obF;split
 .decide
 .split
  .rw[ae];omega
  .split
   .rw[ae];omega
   .have:=Qa N hN N;omega
theorem Nh{x:Sl}(N:aB)(hN:N.length<=7):∀(l:aB) (acc:List (L4.D×L4.D)) (s:Sl),acc.length+7 * l.length<=900->∃d,fu (gN 4) (wc (Ir 3 (vE 1 [4] (iL ah) (gN 0) wH (vQ du)))) (l.map D.str) [a,b,.I (.a3 (N.map D.str)),.Y (acc.map p2),s]=Z (.nx [a,b,.I (.a3 (N.map D.str)),.Y ((acc++l.flatMap λa=>N.map λb=>(D.str a,D.str b)).map p2),d])
 |[],acc,s,_=>#v[s,by rw[List.flatMap_nil,cf];rfl]
 |y::l,acc,s,i=>by rw[aU]at i;let Q:Sl:=.I (.a3 (N.map D.str));let Y:Sl:=.I (.str y);let nw:List (L4.D×L4.D):=N.map λb=>(D.str y,D.str b);obtain⟨d,e⟩:=Nh (x:=x) N hN l (acc++nw) Y (by rw[aA];show acc.length+(N.map _).length+7 * l.length<=900;rw[ae];omega);refine#v[d,?_];rw[aV];unfold fu;let c:bc:=[a,b,Q,.Y (acc.map p2),Y];rw[show gN 4 (.str y) [a,b,Q,.Y (acc.map p2),s]=Z c from U];have h:vE 1 [4] (iL ah) (gN 0) wH (vQ du) c=Z (nw.map p2,c):=(xq D.str (λz=>.a7 [.str y,.str z]) N U (by omega) λz _=>#v[[.I (.str z),Y],[.I (.str z),Y],U,U,U]).t (by show _=Z ((N.map _).map p2,c);rw[aY];rfl);have f:wc (Ir 3 (vE 1 [4] (iL ah) (gN 0) wH (vQ du))) c=Z (.nx [a,b,Q,.Y ((acc++nw).map p2),Y]):=(xP (Tg U h U (by rw[ae,ae];show acc.length+(N.map _).length<=1000;rw[ae];omega))).t (by rw[aX];rfl);simp only[f];rw[e,gv,b9]
def OK(g:ea T M b W)(h:f∈k4):yR [wO T M b W V R c,.str f]=Z ((obF (oy T) (Ms W) f).map p2):=by
 have j:=g.len;let w:=wO T M b W V R c;have lN:(oy T).length<=7:=by unfold oy;rw[ae];exact g.p7
 have ld:=P9 g;have nms:∀F:Sl,vE 1 [0] (iL (vU yI "names" aa vP)) (gN 0) (cT (vU wR "is_plainly" (vU v7 "thing_of" ag bJ) vP)) aa [.I w,F,.un,.un,.un]=Z ((oy T).map D.str,[.I w,F,.un,.un,.un]):=λF=>by
  let a:bc:=[.I w,F,.un,.un,.un];refine(xx (λt:Th=>D.str t.n) (λt=>.str t.n) (λt=>t.k.pl) T ?_ (by omega) λt l=>#v[[.I (.str t.n),.I w],[.I (.str t.n),.I w],U,?_,λs=>#v[_,U,U],λs=>U]).t (by unfold oy;rw[aY];rfl)
  .unfold iL;rw[wb U U U U (Kp T j)]
  .have d:x4 [w,.str t.n]=Z ((xn (nK T) (T.map ey) (kS t.n)).getD .U):=by kernel_rfl
   rw[F7 g.t? ey l]at d;refine we (wb ?_ U U U (F4 t));exact wb U U U U d
 let NL:Sl:=.I (.a3 ((oy T).map D.str));have i:∀F:Sl,vN 2 (cL (vE 1 [0] (iL (vU yI "names" aa vP)) (gN 0) (cT (vU wR "is_plainly" (vU v7 "thing_of" ag bJ) vP)) aa)) [.I w,F,.un,.un,.un]=Z (.nx [.I w,F,NL,.un,.un]):=λF=>(wV (wj (nms F)));simp only[k4,aM,cg,or_false]at h;rcases h with rfl|rfl|rfl|rfl
 .let a:bc:=[.I w,.I (.str "one"),NL,.un,.un];refine Ab (ρ:=a) U ?_;unfold yQ;refine(xj U).t ((xj U).t ((vz (i _)).t (GY ((wB U).t (xF ((xq D.str (λx=>.a7 [.str x,.U]) (oy T) U (by omega) λx s=>#v[[.I (.str x)],[.I (.str x)],U,U,U]).t ?_))))));show _=Z (((oy T).map λx=>(D.str x,D.U)).map p2,a);rw[aY];rfl
 .obtain⟨m,e⟩:=Nh (x:=.un) (oy T) lN (oy T) [] .un (by simp;omega);refine Ab (ρ:=[.I w,.I (.str "two"),NL,.un,m]) U ?_;unfold yQ;refine(xj U).t ((xj U).t ((vz (i _)).t ((xj U).t ((vz U).t ((vz ((yV U).t e)).t ?_)))));rfl
 .refine Ab (ρ:=[.I w,.I (.str "alone"),.un,.un,.un]) U ?_;unfold yQ;exact GY ((wB U))
 .let a:bc:=[.I w,.I (.str "way"),.un,.un,.un];refine Ab (ρ:=a) U ?_;unfold yQ;refine(xj U).t (GY ((wB U).t (xF ((xq D.str (λx=>.a7 [.str x,.U]) (Ms W) (ρ1:=a) ?_ (by omega) λx s=>#v[[.I (.str x)],[.I (.str x)],U,U,U]).t ?_))))
  .show iL _ a=_;unfold iL;rw[wb U U U U (LJ (bz g.w8 (by decide)))]
  .show _=Z (((Ms W).map λx=>(D.str x,D.U)).map p2,a);rw[aY];rfl
end
def cmV(N a:aB)(v:Str×Str):List L4.D:=(obF N a v.2).map (p3 v.1)
def cmA(N a:aB)(Q:List (Str×Str)):List L4.D:=Q.flatMap (cmV N a)
section
variable{V:List Vb}
theorem Qb(g:ea T M a W):∀(L:List Vb) (acc:List L4.D) (s:Sl),(∀v∈L,v.f∈k4)->acc.length+49 * L.length<=900->∃d,fu (gN 2) (wc (Ir 1 (vE 2 [2] (iL (cL (wx yR kT))) (gT kF 2) wH (vQ k6)))) (L.map k3) [.I (wO T M a W V R c),.Y acc,s]=Z (.nx [.I (wO T M a W V R c),.Y (acc++cmA (oy T) (Ms W) (L.map nf)),d])
 |[],acc,s,_,_=>#v[s,by show _=Z (A5.nx [_,.Y (acc++[]),s]);rw[cf];rfl]
 |v::L,acc,s,h,l=>by
  rw[aU]at l;have lN:(oy T).length<=7:=by unfold oy;rw[ae];exact g.p7
  have lo:=acU lN (P9 g) v.f;let w:=wO T M a W V R c;let nw:List L4.D:=cmV (oy T) (Ms W) (nf v);have o:nw.length<=49:=by show (c4 _ _).length<=49;rw[ae];exact lo
  obtain⟨d,e⟩:=Qb g L (acc++nw) (.I (k3 v)) (λu m=>h u (a9 _ m)) (by rw[aA];omega);refine#v[d,?_];rw[aV];unfold fu;let b:bc:=[.I w,.Y acc,.I (k3 v)];rw[show gN 2 (k3 v) [.I (wO T M a W V R c),.Y acc,s]=Z b from U];have j:vE 2 [2] (iL (cL (wx yR kT))) (gT kF 2) wH (vQ k6) b=Z (nw,b):=by refine xq p2 (p3 v.n) (obF (oy T) (Ms W) v.f) ?_ (by omega) λq t=>#v[[.I q.1,.I q.2,.I (k3 v)],[.I q.1,.I q.2,.I (k3 v)],U,U,U];unfold iL;rw[wj (vt U (OK g (h v ba)))]
  have i:wc (Ir 1 (vE 2 [2] (iL (cL (wx yR kT))) (gT kF 2) wH (vQ k6))) b=Z (.nx [.I w,.Y (acc++nw),.I (k3 v)]):=(xP (Tg U j U (by omega)));simp only[i];rw[e,b9];rfl
def Va(b:∀v∈V,v∈v6):∀v∈V++v9,v.f∈k4:=λv a=>YY (by
 rcases aZ.1 a with a|a
 .exact bC _ (b v a)
 .exact bx _ a)
def Ni(g:ea T M a W)(b:∀v∈V,v∈v6)(lV:V.length<=6):E2 [wO T M a W V R c]=Z (cmA (oy T) (Ms W) ((V++v9).map nf)):=by
 let w:=wO T M a W V R c;have d:(V++v9).length<=15:=by rw[aA];show V.length+9<=15;omega
 obtain⟨f,e⟩:=Qb g (V++v9) [] .un (Va b) (by simp only[dD];omega);refine Ab (ρ:=[.I w,.un,f]) U ?_;unfold E1;refine(vz (ρ':=[.I w,.Y [],.un]) U).t ((vz ((yV ?_).t e)));unfold iL;rw[wb U U U U (Ga V lV _ _ _ _ _ _)]
end
def q3(v:Str)(x y:Option Str):L4.D:=.a7 [.str v,oS x,oS y]
def Cm(T:List Th)(W:List Wy)(v:Vb)(x y:Option Str):Prop:=(v.f="one" /\ ∃n∈oy T,x=Z n/\y=O)\/(v.f="two" /\ ∃n∈oy T,∃k∈oy T,x=Z n/\y=Z k)\/(v.f="alone" /\ x=O/\y=O)\/(v.f="way" /\ ∃d∈Ms W,x=Z d/\y=O)
def thO(v:Vb)(x y:Option Str):List (Option Str):=if v.f="way" then [O,O]else [x,y]
section
variable{V:List Vb}
def OL(h:e r=Z (wO T M f W V R c,a))(i:g 14=Z p)(j:wNs.contains k=δ)(m:l a=Z (q,b))(o:p (wO T M f W V R c::q)=Z d):vU g k e l r=Z (d,b):=wb h i j m o
def Nj(h:q b=Z (δ,a)):mw q f g b=g a:=by unfold mw;rw[h]
def Qc(b:((V++v9).flatMap Vb.ws).Nodup)(a:v∈V++v9):yt [wO T M d W V R c,.str v.n]=Z (k3 v):=xV U (wy (vy (vw U U (Lq b a)) U))
def Vc(b:((V++v9).flatMap Vb.ws).Nodup)(a:v∈V++v9)(x y:Option Str):Bv [wO T M d W V R c,q3 v.n x y]=Z (.X (decide (v.f="way"))):=xV U (vC (vT (vy ((Nj U).t (OL U U U U (Qc b a))) (wy (vy ((vR U).t (vw U U (xk δ v.f "way"))) U)))))
def Kq(b:((V++v9).flatMap Vb.ws).Nodup)(a:v∈V++v9)(x y:Option Str):xC [wO T M dk W V R c,q3 v.n x y]=Z (.a7 ((thO v x y).map oS)):=xV U (vC (Ls (vy (yD U (we (vt U (Vc b a x y)))) #v[λh=>wy (vy U (by unfold thO;rw[aj (bh h)];rfl)),λh=>z8 U (wy (vy U (by unfold thO;rw[ak (of_decide_eq_false h)];rfl)))])))
def m_it(h:xC [w,q]=Z (.a7 [oS x,oS y])):xg [w,S,q,.str "it"]=Z (oS x):=xV U (e4 U (j2 U (wy (vy (vw (vt U h) U U) U))))
def XX(h:xC [w,q]=Z (.a7 [oS x,oS y])):xg [w,S,q,.str "other"]=Z (oS y):=xV U (e4 U (e4 U (j2 U (wy (vy (vw (vt U h) U U) U)))))
def acV(s:sh T M b W P a)(q:L4.D):xg [wO T M b W V R c,sP P (va a m),q,.str "here"]=Z (.str (a (yN T))):=xV U (j2 U (wy (vy (vt U (LH s)) U)))
def Jr(w S q:L4.D){x:Str}(h:Nm x):xg [w,S,q,.str x]=Z (.str x):=by have all:=aH.1 (show (τ.all λx=>!decide (x="here")&&!decide (x="it")&&!decide (x="other"))=γ by kernel_rfl) x h;simp only[aW,dH,decide_eq_false_iff_not]at all;have e:∀t:Str,¬x=t->cT (c2 (cb δ) ay (cC (.str t))) [.I w,.I S,.I q,.I (.str x)]=Z (δ,[.I w,.I S,.I q,.I (.str x)]):=λt a=>we (vw U U ((xk δ x t).t (by rw[aP a];rfl)));exact xV U (e4 (e _ all.1.1) (e4 (e _ all.1.2) (e4 (e _ all.2) (wy (vy U U)))))
def XY(m:((V++v9).flatMap Vb.ws).Nodup)(l:v∈V++v9)(d:Cm T W v x y)(S:L4.D)(h:By v.f t):∃z∈oy T,xg [wO T M dk W V R c,S,q3 v.n x y,.str t]=Z (.str z):=by
 have a:=Kq (T:=T) (M:=M) (dk:=dk) (W:=W) (R:=R) (c:=c) m l x y;have nw:∀f:Str,f∈(["one", "two"]:aB)->v.f=f->xC [wO T M dk W V R c,q3 v.n x y]=Z (.a7 [oS x,oS y]):=λf i e=>by unfold thO at a;rw[ak (show ¬v.f="way" from by rw[e];intro z;rw[z]at i;exact aq i (by decide))]at a;exact a
 rcases h with ⟨rfl,h⟩|⟨rfl,h⟩
 .have a:=nw _ h U;rcases d with ⟨_,n,b,rfl,rfl⟩|⟨_,n,b,k,j,rfl,rfl⟩|⟨e,_⟩|⟨e,_⟩
  .exact#v[n,b,m_it a]
  .exact#v[n,b,m_it a]
  .rw[e]at h;exact aq h (by decide)
  .rw[e]at h;exact aq h (by decide)
 .have a:=nw "two" (by decide) h;rcases d with ⟨e,_⟩|⟨_,n,b,k,j,rfl,rfl⟩|⟨e,_⟩|⟨e,_⟩
  .rw[e]at h;exact aq h (by decide)
  .exact#v[k,j,XX a]
  .rw[e]at h;exact aq h (by decide)
  .rw[e]at h;exact aq h (by decide)
def Vd(g:ea T M a W)(h:z∈T.map Th.n):Nm z:=g.nm _ (bC _ h)
set_option r "pl_T oy;Nk n?;Ve gk" in def ϑ0(h:z∈ϑ1 T):z∈T.map Th.n:=by obtain⟨t,a,rfl⟩:=au.1 h;exact au.2 #v[t,(aQ.1 a).1,U]
def m_tm(s:sh T M b W P a)(o:((V++v9).flatMap Vb.ws).Nodup)(j:v∈V++v9)(d:Cm T W v x y)(hN:∀z∈N,z∈T.map Th.n)(h:Tm v.f N t):∃z∈T.map Th.n,xg [wO T M b W V R c,sP P (va a m),q3 v.n x y,.str t]=Z (.str z):=by
 rcases h with h|rfl|h
 .exact#v[t,hN t h,Jr _ _ _ (Vd s.g (hN t h))]
 .exact#v[_,Ve s.i.me,acV s _]
 .obtain⟨z,l,e⟩:=XY o j d (sP P (va a m)) h;exact#v[z,pl_T l,e]
def Hold(k:Nat)(w S q t:L4.D)(b:Bool):Prop:=∃j c d a,t=.obj j c d/\wG k j=Z a/\c.contains "holds" = δ/\a [t,w,S,q]=Z (.X b)
def RG(s:sh T M H W P a)(nd:((V++v9).flatMap Vb.ws).Nodup)(hv:v∈V++v9)(X:Cm T W v x y)(h:Ts T M v.f n t):∀k,n<=k->∃b,Hold k (wO T M H W V R c) (sP P (va a m)) (q3 v.n x y) t b:=by
 have B:∀{N:aB},(∀z∈N,z∈T.map Th.n)->∀{t:Str},Tm v.f N t->∃u∈T,xg [wO T M H W V R c,sP P (va a m),q3 v.n x y,.str t]=Z (.str u.n):=λhN _ h=>by obtain⟨z,A,e⟩:=m_tm s nd hv X hN h;obtain⟨u,G,rfl⟩:=au.1 A;exact#v[u,G,e]
 induction h with
 |@ats n t1 t2 q hb=>
  intro k _;obtain⟨z,A,o⟩:=B (λ_ h=>h) q;obtain⟨u,G,eu⟩:=B (λ_ h=>Nk h) hb;have e:=P7 (a:=a) (m:=m) s.p z.n;by_cases r:z.n∈j1 T
  .rw[aj r]at e;exact#v[_,3,_,_,EX,U,by cases k<;>rfl,U,xV U (vC (vT (vy (vt U o) (vC (vT (vy (vt U e) (wy (vy ((vR U).t (vw U (vt U eu) (xk δ _ _))) U))))))))]
  .rw[ak r]at e;exact#v[δ,3,_,_,EX,U,by cases k<;>rfl,U,xV U (vC (vT (vy (vt U o) (vC (vT (vy (vt U e) (wy (vy (Aa U) U))))))))]
 |@has n t1 q=>intro k _;obtain⟨z,A,o⟩:=B (λ_ h=>h) q;obtain⟨l,ch⟩:=s.i.ch z.n;exact#v[_,4,_,_,Ht,U,by cases k<;>rfl,U,xV U (wy (vy (vt (vv U (vv U (vv (vt U o) U))) (acT s.p ch (OJ s.g s.i ch))) U))]
 |@seen n t1 q=>intro k _;obtain⟨z,A,o⟩:=B (λ_ h=>h) q;obtain⟨b,I⟩:=LI s A;exact#v[b,5,_,_,FY,U,by cases k<;>rfl,U,xV U (wy (vy (vt (vv U (vv U (vv (vt U o) U))) I) U))]
 |@mark n p val w=>
  intro k _;obtain⟨z,o⟩:∃z,xg [wO T M H W V R c,sP P (va a m),q3 v.n x y,.str p.1]=Z (.str z):=by
   rcases w with w|⟨w,_⟩
   .exact#v[_,Jr _ _ _ (UC s.g w)]
   .obtain⟨z,_,e⟩:=XY nd hv X (sP P (va a m)) w;exact#v[z,e]
  have e:=LD (a:=a) (m:=m) s.p z;by_cases r:z∈tj T M
  .rw[aj r]at e;exact#v[_,6,_,_,Ba,U,by cases k<;>rfl,U,xV U (vC (vT (vy (vt (vv U (vv (vt U o) U)) e) (wy (vy ((vR U).t (vw U U (xW _ _ _))) U)))))]
  .rw[ak r]at e;exact#v[δ,6,_,_,Ba,U,by cases k<;>rfl,U,xV U (vC (vT (vy (vt (vv U (vv (vt U o) U)) e) (wy (vy (Aa U) U)))))]
 |@kind n t1 kk q=>intro k _;obtain⟨u,G,o⟩:=B (λ_ h=>h) q;exact#v[_,7,_,_,FZ,U,by cases k<;>rfl,U,xV U (vC (vT (vy (OL U U U (vv (vt U o) U) (z9 s.g.t? G)) (wy (vy ((vR U).t (vw U U (xk _ _ _))) U)))))]
 |@word n d Y=>
  intro k _;obtain⟨z,rfl⟩:∃z,x=Z z:=by
   rcases X with ⟨e,_⟩|⟨e,_⟩|⟨e,_⟩|⟨_,d,_,rfl,_⟩
   iterate 3 rw[e]at Y;exact aq Y (by decide)
   exact#v[d,U]
  exact#v[_,8,_,_,F0,U,by cases k<;>rfl,U,xV U (wy (vy ((vR (vt U ((Vc nd hv (Z z) y).t (by rw[aS Y])))).t (vw U U (xk _ _ _))) U))]
 |@lit n=>intro k _;obtain⟨b,I⟩:=U9 s;exact#v[b,15,_,_,Hu,U,by cases k<;>rfl,U,xV U (wy (vy (vt U I) U))]
 |@no n d h ih=>intro k hk;obtain⟨k,rfl⟩:∃j,k=j+1:=#v[k - 1,by omega];obtain⟨b,j,ns,ds,hh,rfl,C,E,F⟩:=ih k (by omega);exact#v[!b,9,["inner"],_,dr 4 4 (z5 (wG k)),U,U,U,xV U (wy (vy (Ln (wb U C E U F)) U))]
 |@bo n d e h h' ih ih'=>
  intro k hk;obtain⟨k,rfl⟩:∃j,k=j+1:=#v[k - 1,by omega];obtain⟨b,j,ns,ds,hh,rfl,C,E,F⟩:=ih k (by omega);obtain⟨b',j',ns',ds',hh',rfl,J,Q,S⟩:=ih' k (by omega);refine#v[b&&b',10,["one", "other"],_,dr 4 4 (zA (wG k)),U,U,U,xV U (wy ?_)];cases b with
  |true=>exact vy ((vR (wb U C E U F)).t (wb U J Q rfl S)) U
  |false=>exact vy (Aa (wb U C E U F)) U
end
section
variable{V:List Vb}
def sh.len(s:sh T M b W P a):P.length<=900:=by have:=(OH s.g).2;rw[s.p.length_eq];omega
def aff{x:Str}(h:x∈j1 T):∃t∈T,t.n=x/\¬t.k=.room:=by obtain⟨t,a,e⟩:=au.1 h;rw[aQ]at a;exact#v[t,a.1,e,λz=>by rw[z]at a;exact aq a.2 (by decide)]
def Vf(s:Str)(x:Str):cb γ (.a3 [kD (s,x)]) (.a3 [])=Z (.X γ):=by rfl
def Nl(g:ea T M b W){x:Str}(h:x∈j1 T):EV [wO T M b W V R c,.str x]=Z (.a3 [kD ("at", x)]):=by obtain⟨t,j,rfl,i⟩:=aff h;let w:=wO T M b W V R c;let a:bc:=[.I w,.I (.str t.n),.I (ey t)];have d:vN 2 (vU v7 "thing_of" aa bU) [.I w,.I (.str t.n),.un]=Z (.nx a):=(wV (wb U U U U (z9 g.t? j))).t U;have e:cT (c2 (cb δ) (c1 (vF wz "kind") ah) cH) a=Z (δ,a):=we (vw (wt U (BQ t)) U ((P8 t .room).t (by rw[aP i])));have f:xG (cT (c2 zF ah aN)) (cT (c2 (cb δ) (c1 (vF wz "kind") ah) cH)) a=Z (δ,a):=yD U e;refine vJ (ρ:=a) U ((vz d).t (vS ?_));unfold mw;rw[f];rfl
def RH(g:ea T M d W){x:Str}{t:Th}(i:x∈j1 T)(h:t∈T):FX [wO T M d W V R c,.str x,.str t.n]=Z (.X (t.k.hd&&!decide (t.n=x))):=by
 let w:=wO T M d W V R c;let a:bc:=[.I w,.I (.str x),.I (.str t.n),.I (ey t)];have f:vN 3 (vU v7 "thing_of" aa ck) [.I w,.I (.str x),.I (.str t.n),.un]=Z (.nx a):=(wV (wb U U U U (z9 g.t? h))).t U;have b:vU wZ "can_hold" ay vP a=Z (.X t.k.hd,a):=wb U U U U (Ll t);refine vJ (ρ:=a) U ((vz f).t (vS ((vR (vw (vt U (Nl g i)) U (Vf _ _))).t ((vR U).t ?_))));cases e:t.k.hd with
 |true=>rw[e]at b;exact(vR b).t (vw U U (by rw[xk];rfl))
 |false=>rw[e]at b;exact Aa b
def Done(w S q d:L4.D)(o:L4.D):Prop:=∃k b c a,d=.obj k b c/\CV k=Z a/\b.contains "done" = δ/\a [d,w,S,q]=Z o
def stO(P:List Ky):Option ((Str->Str)×(Str->Int))->L4.D
 |none=>.U
 |some q=>sP P (va q.1 q.2)
def Qd(s:sh T M e W P a)(I:Mr T M m){q:L4.D}{t d x:Str}{u:Th}(C:x∈j1 T)(A:u∈T)(H:x=(yN T)->u.k=.room)(F:xg [wO T M e W V R c,sP P (va a m),q,.str t]=Z (.str x))(G:xg [wO T M e W V R c,sP P (va a m),q,.str d]=Z (.str u.n)):
  ∃o,Done (wO T M e W V R c) (sP P (va a m)) q (S3 t d) (stO P o)/\∀p,o=Z p->b0 T p.1/\Mr T M p.2:=by
 let w:=wO T M e W V R c;let S:=sP P (va a m);obtain⟨l,h⟩:=s.i.ch u.n;let b:bc:=[.I (S3 t d),.I w,.I S,.I q,.I (.str x),.I (.str u.n)];have j:cT (vx FX (ax ag oo)) b=Z (u.k.hd&&!decide (u.n=x),b):=we (vt U (RH s.g C A));have E:cT (c2 (j0 δ) aG (cL (wx yP kU))) b=Z (decide (x∈l),b):=we (vw U (wj (vt U (LF s.p _ h (OJ s.g s.i h)))) (yX δ _ _));have y:∀f:FS,a0 (vN 4 (vx xg hE)) (a0 (vN 5 (vx xg nZ)) f) [.I (S3 t d),.I w,.I S,.I q,.un,.un]=f b:=λf=>(vz ((wV (vt U F)))).t (vz ((wV (vt U G)).t U))
 cases k:u.k.hd&&!decide (u.n=x)with
 |false=>rw[k]at j;exact#v[O,#v[11,_,_,Bw,U,U,U,vJ U ((y _).t (wg ((wB (M6 (yL j))))))],λp z=>by cases z]
 |true=>
  rw[k]at j;rw[aW,dH,decide_eq_false_iff_not]at k;have r:=yD (yL j) E;cases B:decide (x∈l)with
  |true=>rw[B]at r;exact#v[O,#v[11,_,_,Bw,U,U,U,vJ U ((y _).t (wg ((wB r))))],λp z=>by cases z]
  |false=>rw[B]at r;refine#v[Z (Hj a x u.n,m),#v[11,_,_,Bw,U,U,U,vJ U ((y _).t ((xj r).t (vS (vt U ((P5 P s.len (va a m) ("at", x) (.str u.n)).t (by rw[ae7];rfl))))))],λp z=>?_];cases z;exact#v[s.i.mv s.g C (au.2 #v[u,aQ.2 #v[A,k.1],U]) (λz=>au.2 #v[u,aQ.2 #v[A,aS (H z)],U]) k.2 h (of_decide_eq_false B),I]
theorem Vg{c:Type}(kf:c->d?)(b:c->Int)(k:d?):∀l:List c,(xn (l.map kf) (l.map λa=>D.int (b a)) k).getD .U=.U\/∃z,(xn (l.map kf) (l.map λa=>D.int (b a)) k).getD .U=.int z
 |[]=>.inl U
 |a::l=>by
  rw[aV,aV];unfold xn;split
  .exact .inr #v[b a,U]
  .exact Vg kf b k l
def Vh(s:sh T M y W P a)(X:Mr T M m)(A:xg [wO T M y W V R c,sP P (va a m),q,.str t]=Z (.str z))(Y:0<=n):
  ∃o,Done (wO T M y W V R c) (sP P (va a m)) q (puO t n) (stO P o)/\∀p,o=Z p->b0 T p.1/\Mr T M p.2:=by
 let w:=wO T M y W V R c;let S:=sP P (va a m);let x:bc:=[.I (puO t n),.I w,.I S,.I q,.I (.str z)];have F:yq [w,.str z]=Z ((xn ((mP T M).map λq=>kS q.1) ((mP T M).map λq=>D.int q.2) (kS z)).getD .U):=vJ U (vS (vw U U U));have H:vN 4 (vx xg hE) [.I (puO t n),.I w,.I S,.I q,.un]=Z (.nx x):=(wV (vt U A)).t U;have C:∀(d:L4.D),yq [w,.str z]=Z d->∀f:bc,cV 0 f=Z (w,f)->cV 1 f=Z (.str z,f)->vU xB "most_of" aa bU f=Z (d,f):=λd hd f J A=>wb J U U (vv A U) hd;have fin:∀b,EW [w,.str z,.int n]=Z (.X b)->(b=γ->∀q∈mP T M,q.1=z->n<=q.2)->∃o,Done w S q (puO t n) (stO P o)/\∀p,o=Z p->b0 T p.1/\Mr T M p.2:=λb B N=>by
  have G:=yL (we (vt (a:=ax ag (ax aG n5)) (ρ:=x) U B));cases b with
  |false=>exact#v[O,#v[12,_,_,EY,U,U,U,vJ U ((vz H).t (wg ((wB G))))],λp z=>by cases z]
  |true=>exact#v[Z (a,Hj m z n),#v[12,_,_,EY,U,U,U,vJ U ((vz H).t ((xj G).t (vS (vt U ((P5 P s.len (va a m) ("mark", z) (.int n)).t (by rw[ae8 _ _ _ _ _ (Y3 s.p)];rfl))))))],λp e=>by
   cases e;refine#v[s.i,λq I=>?_];show 0<=(if q.1=z then n else m q.1)/\(if q.1=z then n else m q.1)<=q.2;by_cases l:q.1=z
   .rw[aj l];exact#v[Y,N U q I l]
   .rw[ak l];exact X q I]
 let j:bc:=[.I w,.I (.str z)];let r3:bc:=[.I w,.I (.str z),.I (.int n)];rcases Vg (λq:Str×Int=>kS q.1) cc (kS z) (mP T M)with h|⟨k,h⟩
 .have r:=F.t (bE Z h);have E:Ar [w,.str z]=Z (.a3 []):=by refine vJ U (vS ((F9 (we (vw (C _ r j U U) U U)))))
  exact fin δ (vJ U (vS (Aa (vw (vt U E) U U)))) λz=>by cases z
 .have r:=F.t (bE Z h);have E:Ar [w,.str z]=Z (.a3 [kD ("mark", z)]):=by refine vJ (ρ:=j) U (vS ?_);have e:cT (c2 zF (vU xB "most_of" aa bU) aN) j=Z (δ,j):=we (vw (C _ r j U U) U U);show mw _ _ _ j=_;unfold mw;rw[e];rfl
  exact fin (decide (n<=k)) (vJ U (vS ((vR (vw (vt U E) U (Vf _ _))).t (vw U (C _ r r3 U U) U)))) λB u Q l=>by rw[<-l,AQ (Uy s.g) (by rw[jm];exact b8 Q)]at h;injection h with h;rw[h];exact bh B
def afg(g:ea T M d W)(h:z∈oy T):z∈j1 T/\¬z=(yN T):=by obtain⟨t,b,rfl⟩:=au.1 h;rw[aQ]at b;have a:=b.2;refine#v[(LB g.t? _ b.1).2 (by cases e:t.k<;>rw[e]at a<;>first|rfl|cases a),λz=>?_];obtain⟨u,c,e,k⟩:=y_T g;rw[LA g.t? b.1 c (z.t e.symm),k]at a;cases a
def Vi(s:sh T M A W P a)(l:Mr T M m)(F:((V++v9).flatMap Vb.ws).Nodup)(E:v∈V++v9)(B:Cm T W v x y){d:L4.D}(h:Ds T M v.f d):∃o,Done (wO T M A W V R c) (sP P (va a m)) (q3 v.n x y) d (stO P o)/\∀p,o=Z p->b0 T p.1/\Mr T M p.2:=by
 cases h with
 |@put q n h H=>
  rcases h with h|⟨h,_⟩
  .exact Vh s l (Jr _ _ _ (UC s.g h)) H
  .obtain⟨z,_,e⟩:=XY F E B (sP P (va a m)) h;exact Vh s l e H
 |@move t b Y hb hm=>
  obtain⟨z,hz,i⟩:=m_tm s F E B (λ_ h=>Nk h) hb;obtain⟨u,C,rfl⟩:=au.1 hz;rcases Y with ⟨w,j,rfl,hk⟩|h
  .have I:=Jr (wO T M A W V R c) (sP P (va a m)) (q3 v.n x y) (Vd s.g (au.2 #v[w,j,U]));refine Qd s l ((LB s.g.t? _ j).2 (by rw[aP hk];rfl)) C (λz=>?_) I i;obtain⟨r,G,e,kr⟩:=hm z;have J:=Jr (wO T M A W V R c) (sP P (va a m)) (q3 v.n x y) (Vd s.g (au.2 #v[r,G,e]));rw[J]at i;have N:b=u.n:=by injection i with i;injection i
   rw[<-LA s.g.t? G C (e.t N)];exact kr
  .obtain⟨w,j,Q⟩:=XY F E B (sP P (va a m)) h;obtain⟨S,X⟩:=afg s.g j;exact Qd s l S C (λz=>aq z X) Q i
end
section
variable{V:List Vb}
def Vj(n:Str)(a c:List L4.D)(tx:Str)(e:Bool)(h:∀t∈a,∃b,Hold 3 w S q t b):∃d,Li [w,S,q,p? n a c tx e]=Z d/\∃b,d=.X b:=by
 let J:=λ(_:Nat) (r:bc)=>∃s,r=[.I w,.I S,.I q,.I (p? n a c tx e),s];refine Gb U (vC (BU (vy U #v[J,#v[_,U],?_,?_])))
 .rintro j t _ hd ⟨s,rfl⟩;obtain⟨b,k,p,m,o,rfl,f,i,l⟩:=h t (bV hd);exact#v[_,U,Ls (vy (yL (we (wb U f i U l))) #v[λ_=>wy (vy U #v[_,U]),λ_=>z8 U #v[_,U]])]
 .rintro _ ⟨s,rfl⟩;exact wy (vy U #v[_,U])
def Y7(k tx:Str)(S:L4.D):L4.D:=.a7 [.a7 [.str k,.str tx],S]
def Gd(T:List Th)(M:List Mk)(P:List Ky)(S o:L4.D):Prop:=∃k tx a b,o=Y7 k tx (sP P (va a b))/\k∈(["told", "refused", "unseen"]:aB)/\(k="told" \/ sP P (va a b)=S)/\b0 T a/\Mr T M b
def Qe(i:b0 T a)(b:Mr T M m){k tx:Str}(h:k∈(["told", "refused", "unseen"]:aB)):Gd T M P (sP P (va a m)) (Y7 k tx (sP P (va a m))):=#v[_,_,a,m,U,h,.inr U,i,b]
def XZ(s:sh T M z W P a)(w:Mr T M m)(N:((V++v9).flatMap Vb.ws).Nodup)(I:v∈V++v9)(G:Cm T W v x y)(n:Str)(B l:List L4.D)(tx:Str)(A:Bool)(hd:∀d∈l,Ds T M v.f d):∃o,Eg [wO T M z W V R c,sP P (va a m),q3 v.n x y,p? n B l tx A]=Z o/\Gd T M P (sP P (va a m)) o:=by
 refine Gb U ?_;cases A with
 |true=>exact j2 U (wy (vy U (Qe s.i w (by decide))))
 |false=>
  let J:=λ(_:Nat) (r:bc)=>∃e h t,r=[.I (wO T M z W V R c),.I (sP P (va a m)),.I (q3 v.n x y),.I (p? n B l tx δ),.I (sP P (va e h)),t]/\b0 T e/\Mr T M h;refine e4 U (vC (z8 U (vC (BU (vy U #v[J,#v[a,m,_,U,s.i,w],?_,?_])))))
  .rintro j d _ q ⟨e,h,t,rfl,u,b⟩;obtain⟨o,⟨k,X,Q,S,rfl,C,E,F⟩,H⟩:=Vi #v[s.g,s.p,u] b N I G (hd d (bV q));refine#v[_,U,vC (vT (vy (wb U C E U F) ?_))];cases o with
   |none=>exact s_y U (wy (vy U (Qe s.i w (by decide))))
   |some p=>exact s_n U (z8 U #v[p.1,p.2,_,U,H p U])
  .rintro _ ⟨e,h,t,rfl,u,b⟩;exact wy (vy U #v["told", tx,e,h,U,by decide,.inl U,u,b])
def RI{c b:FT}{d a:bc}(h:c d=Z (γ,a)):xI c b d=b a:=by unfold xI;rw[h]
def Y8(h:e c=Z (.a7 b,a)):iT e c=Z (b,a):=by unfold iT;rw[h]
def nmP(a:List (Option Str)):aB:=a.filterMap id
theorem HS(p:Str->Bool):∀a:List (Option Str),(a.filter λo=>match o with|none=>δ|some x=>p x).map oS=((nmP a).filter p).map D.str
 |[]=>rfl
 |none::a=>HS p a
 |some x::a=>by
  show _=((x::nmP a).filter p).map D.str;rw[gx,gx];show c4 oS (if p x=γ then _ else _)=c4 _ (if p x=γ then _ else _);by_cases b:p x=γ
  .rw[aj b,aj b,aV,aV,HS p a];rfl
  .rw[ak b,ak b];exact HS p a
def Vk(s:sh T M e W P a)(w:Mr T M m){q:L4.D}{n:Str}{f:List (Option Str)}{p:Str->Bool}{rs:List L4.D}(hO:f.length<=2)(I:∃h l,q=.a7 [.str n,h,l])(C:y8 [wO T M e W V R c,q]=Z .U)(u:xC [wO T M e W V R c,q]=Z (.a7 (f.map oS)))(E:∀x∈nmP f,xD [wO T M e W V R c,sP P (va a m),.str x]=Z (.X (p x)))
  (F:xR [wO T M e W V R c,.str n]=Z (.a3 rs)) (G:∀r∈rs,(∃d,Li [wO T M e W V R c,sP P (va a m),q,r]=Z d/\∃b,d=.X b)/\∃o,Eg [wO T M e W V R c,sP P (va a m),q,r]=Z o/\Gd T M P (sP P (va a m)) o):∃o,Lj [wO T M e W V R c,sP P (va a m),q]=Z o/\Gd T M P (sP P (va a m)) o:=by
 obtain⟨h,l,rfl⟩:=I;obtain⟨o,H,g⟩:∃o,EZ [wO T M e W V R c,sP P (va a m),.a7 [.str n,h,l],.a3 (((nmP f).filter p).map D.str)]=Z o/\Gd T M P (sP P (va a m)) o:=by
  let z:Sl->Sl->bc:=λx y=>[.I (wO T M e W V R c),.I (sP P (va a m)),.I (.a7 [.str n,h,l]),.I (.a3 (((nmP f).filter p).map D.str)),x,y];let J:=λ(_:Nat) (r:bc)=>∃x,r=z x .un;refine Gb U (vC (BU (vy (Y8 (vt U u)) #v[J,#v[_,U],?_,?_])))
  .rintro j d _ hd ⟨t,rfl⟩;rw[bg]at hd;obtain⟨x,_,rfl⟩:=dZ.1 hd;refine#v[_,U,?_];cases x with
   |none=>exact s_n U (z8 U #v[_,U])
   |some x=>exact Ls (vy ((RI U).t (we (vw U U (yX γ x _)))) #v[λ_=>wy (vy U (Qe s.i w (by decide))),λ_=>z8 U #v[_,U]])
  .rintro _ ⟨t,rfl⟩;let J:=λ(_:Nat) (r:bc)=>∃y,r=z t y;refine vC (BU (vy (Cj (OL U U U U F)) #v[J,#v[_,U],?_,?_]))
   .rintro j r _ hd ⟨y,rfl⟩;obtain⟨⟨_,A,b,rfl⟩,o,B,g⟩:=G r (bV hd);exact#v[_,U,Ls (vy (we (vt U A)) #v[λ_=>wy (vy (vt U B) g),λ_=>z8 U #v[_,U]])]
   .rintro _ ⟨y,rfl⟩;exact wy (vy U (Qe s.i w (by decide)))
 refine#v[o,xV U (vC (D5 (vy (vt U C) (vC (vT (w_L (vy ((xx oS oS (λo=>match o with|none=>δ|some x=>p x) f (Y8 (vt U u)) (by omega) λx N=>#v[_,_,U,we (vt U ?_),λ_=>#v[_,U,U],λ_=>U]).t (by rw[HS])) (wy (vy (vt U H) U))))))))),g];cases x with
 |none=>exact XW _
 |some x=>exact E x (ja.2 #v[_,N,U])
end
section
variable{V:List Vb}
def RuS(T:List Th)(M:List Mk)(V:List Vb)(d:L4.D):Prop:=∃v∈V++v9,∃b a tx c,d=p? v.n b a tx c/\(∀t∈b,Ts T M v.f 2 t)/\∀e∈a,Ds T M v.f e
def afh(g:ea T M b W):(yN T)∈n? T:=by obtain⟨t,a,e,k⟩:=y_T g;exact au.2 #v[t,aQ.2 #v[a,by rw[k];rfl],e]
def trR(v k:Str)(n:Int)(a b c:Str):List L4.D:=[p? v [noO (kiO "it" k)] [] a γ,p? v [mkO "it" n] [] b γ,p? v [] [puO "it" n] c δ]
def acW(u:Str):A21 u=[p? "take" [kiO "it" "fixed"] [] "That stays." γ,p? "take" [atO "it" u] [] "You have that." γ,p? "take" [] [S3 "it" u] "Taken." δ,p? "drop" [hsO "it"] [S3 "it" "here"] "Dropped." δ,p? "drop" [] [] "You lack that." γ,p? "put" [noO (hsO "it")] [] "You lack that." γ,p? "put" [noO (kiO "other" "box")] [] "It holds nothing." γ,p? "put" [mkO "other" 0] [] "It is shut." γ,p? "put" [] [S3 "it" "other"] "Done." δ]++(trR "open" "box" 1 "It has no lid." "It is open." "Opened." ++ trR "shut" "box" 0 "It has no lid." "It is shut." "Shut." ++ (trR "light" "lamp" 1 "It burns not." "It is lit." "Lit." ++ trR "douse" "lamp" 0 "It burns not." "It is out." "Doused.")):=by kernel_rfl
def Bb(h:v∈v9){b a:List L4.D}{tx:Str}{c:Bool}(d:∀t∈b,Ts T M v.f 2 t)(hd:∀e∈a,Ds T M v.f e):RuS T M V (p? v.n b a tx c):=#v[v,bx _ h,b,a,tx,c,U,d,hd]
def O'{a:Type}{p:a->Prop}{d:a}(h:p d):∀e∈[d],p e:=λe b=>by rw[bu.1 b];exact h
def E'{a:Type}{p:a->Prop}:∀e∈([]:List a),p e:=λe b=>by cases b
def Qf(d:0<=z)(a:(#v[n,[],"one", O]:Vb)∈v9):∀r∈trR n k z e f h,RuS T M V r:=λr b=>by
 have c:By "one" "it" := .inl #v[U,by decide];have mt:Mt T M "one" ("it", 1):=.inr #v[c,by decide];simp only[trR,aM,cg,or_false]at b;rcases b with rfl|rfl|rfl
 .exact Bb a (O' (.no (.kind (.inr (.inr c))))) E'
 .exact Bb a (O' (.mark mt)) E'
 .exact Bb a E' (O' (.put mt d))
def acX(g:ea T M o W):∀r∈A21 (yN T),RuS T M V r:=λr hr=>by
 have a:By "one" "it" := .inl #v[U,by decide];have i:By "two" "it" := .inl #v[U,by decide];have e:By "two" "other" := .inr #v[U,U];have j:=afh g;obtain⟨m,d,l,_⟩:=y_T g;have nmy:Nm (yN T):=g.nm _ (bC _ (au.2 #v[m,d,l]));have nme:("it" : Str)=(yN T)->∀b:Str,∃t∈T,t.n=b/\t.k=.room:=λz=>aq (show ("it" : Str)∈τ from z▸nmy) (of_decide_eq_false (by kernel_rfl));have f:(#v["take", [],"one", O]:Vb)∈v9:=by simp[v9]
 have h:(#v["drop", [],"one", O]:Vb)∈v9:=by simp[v9]
 have c:(#v["put", [],"two", Z "in"]:Vb)∈v9:=by simp[v9]
 rw[acW]at hr;rcases aZ.1 hr with hr|hr
 .simp only[aM,cg,or_false]at hr;rcases hr with rfl|rfl|rfl|rfl|rfl|rfl|rfl|rfl|rfl
  .exact Bb f (O' (.kind (.inr (.inr a)))) E'
  .exact Bb f (O' (.ats (.inr (.inr a)) (.inl j))) E'
  .exact Bb f E' (O' (.move (.inr a) (.inl j) λz=>nme z _))
  .exact Bb h (O' (.has (.inr (.inr a)))) (O' (.move (.inr a) (.inr (.inl U)) λz=>nme z _))
  .exact Bb h E' E'
  .exact Bb c (O' (.no (.has (.inr (.inr i))))) E'
  .exact Bb c (O' (.no (.kind (.inr (.inr e))))) E'
  .exact Bb c (O' (.mark (q:=("other", 1)) (.inr #v[e,by decide]))) E'
  .exact Bb c E' (O' (.move (.inr i) (.inr (.inr e)) λz=>nme z _))
 .rcases aZ.1 hr with hr|hr
  .rcases aZ.1 hr with hr|hr
   .exact Qf (by decide) (by simp[v9]) r hr
   .exact Qf (by decide) (by simp[v9]) r hr
  .rcases aZ.1 hr with hr|hr
   .exact Qf (by decide) (by simp[v9]) r hr
   .exact Qf (by decide) (by simp[v9]) r hr
def Vl(h:r∈gk T):r∈n? T:=by obtain⟨u,a,e⟩:=au.1 h;rw[aQ]at a;exact au.2 #v[u,aQ.2 #v[a.1,by rw[bh a.2];rfl],e]
def afi(g:ea T M l W)(a:M5 T M w):RuS T M V (goO (yN T) w):=by
 have i:(#v["go", [],"way", O]:Vb)∈v9:=by simp[v9]
 obtain⟨t,f,e,k⟩:=y_T g;have j:(yN T)∈T.map Th.n:=au.2 #v[t,f,e];refine Bb i (λd hd=>?_) (O' (.move (.inl #v[t,f,e,by rw[k];exact λz=>by cases z]) (.inl (Vl a.hg)) λs=>?_))
 .unfold wtL at hd;rcases aZ.1 hd with hd|hd
  .rw[aM,bu]at hd;rcases hd with rfl|rfl
   .exact .ats (.inl j) (.inl (Vl a.hr))
   .exact .word U
  .cases b:w.m with
   |none=>rw[b]at hd;cases hd
   |some k=>rw[b]at hd;rw[bu.1 hd];have:=a.hm k b;rw[<-Lp]at this;obtain⟨q,h,rfl⟩:=au.1 this;exact .no (.mark (.inl h))
 .obtain⟨u,c,e⟩:=au.1 a.hg;rw[aQ]at c;exact#v[u,c.1,e,bh c.2]
def afj(g:ea T M d W):∀r∈SH (yN T) W,RuS T M V r:=λr hr=>by
 have a:(#v["go", [],"way", O]:Vb)∈v9:=by simp[v9]
 have c:(#v["wait", [],"alone", O]:Vb)∈v9:=by simp[v9]
 unfold SH at hr;rcases aZ.1 hr with hr|hr
 .rcases aZ.1 hr with hr|hr
  .exact acX g r hr
  .rcases aZ.1 hr with hr|hr
   .obtain⟨w,b,rfl⟩:=au.1 hr;exact afi g (g.wo w b)
   .rw[bu.1 hr];exact Bb a E' E'
 .rw[bu.1 hr];exact Bb c E' E'
def vb_f{L:List Vb}(b:(L.flatMap Vb.ws).Nodup)(d:u∈L)(h:v∈L)(e:u.n=v.n):u.f=v.f:=by have a:=Lq b d;have c:=Lq b h;rw[e,c]at a;injection a with a;injection a with _ _ a;injection a with _ a;injection a with _ a;injection a with a _;injection a with a;exact a.symm
def acY(f:∀j,gl b dss j=(R++SH (yN T) W).filter λd=>decide (kv d=j))(n:Str):xR [wO T M c W V R (.i0 b (dss.map .a3)),.str n]=Z (.a3 ((R++SH (yN T) W).filter λd=>decide (kv d=kS n))):=by let a:bc:=[.I (wO T M c W V R (.i0 b (dss.map .a3))),.I (.str n)];refine BF (ρ:=a) U (xF ?_);have e:DJ (c1 (vF zt "rules_by_verb") aa) ag (cL (vO vP)) a=Z ((xn b (dss.map .a3) (kS n)).getD (.a3 []),a):=rfl;rw[PQ,f]at e;show zf _ a=_;unfold zf;rw[e];rfl
def Try(T:List Th)(M:List Mk)(a:aB)(W:List Wy)(V:List Vb)(R:List L4.D)(c:L4.D):Prop:=∀n:Str,xR [wO T M a W V R c,.str n]=Z (.a3 ((R++SH (yN T) W).filter λd=>decide (kv d=kS n)))
def OM(g:ea T M b W){x:Str}(d:x∈oy T):z6 [wO T M b W V R c,.str x]=Z (.X γ):=by obtain⟨t,a,rfl⟩:=au.1 d;rw[aQ]at a;exact xV U (vC (vT (vy ((F9 U).t (OL U U U U (z9 g.t? a.1))) (wy (vy ((vR U).t (wb U U U U ((F4 t).t (by rw[a.2])))) U)))))
def X0(g:ea T M b W)(h:Cm T W v x y):DY [wO T M b W V R c,.str v.f,oS x,oS y]=Z (.X γ):=by
 rcases h with ⟨e,n,a,rfl,rfl⟩|⟨e,n,a,k,i,rfl,rfl⟩|⟨e,rfl,rfl⟩|⟨e,d,hd,rfl,rfl⟩<;>rw[e]
 .exact xV U (e4 U (e4 U (e4 U (wy (vy ((Nj U).t (vt U (OM g a))) U)))))
 .exact xV U (j2 U (wy (vy ((vR (vt U (OM g a))).t (vt U (OM g i))) U)))
 .exact xV U (e4 U (e4 U (e4 U (wy (vy U U)))))
 .exact xV U (e4 U (e4 U (j2 U (wy (vy ((vR U).t (vw U (OL U U U U (LJ (bz g.w8 (by decide)))) (yX δ _ _))) (by rw[aS hd];rfl))))))
def acZ(g:ea T M a W)(e:((V++v9).flatMap Vb.ws).Nodup)(d:v∈V++v9)(b:Cm T W v x y):y8 [wO T M a W V R c,q3 v.n x y]=Z .U:=by have h:CW [wO T M a W V R c,q3 v.n x y]=Z (.X γ):=xV U (e4 U (vC (vT (vy (OL U U U U (Qc e d)) (wy (vy ((vR U).t ((vR (vw U U (by rw[xk];simp))).t (vt U (X0 g b)))) U))))));exact BE U ((w9 (yL (we (vt U h)))))
def afk(c:Cm T W v x y):∀z∈nmP (thO v x y),z∈oy T:=λz a=>by
 unfold thO at a;rcases c with ⟨e,n,b,rfl,rfl⟩|⟨e,n,b,k,f,rfl,rfl⟩|⟨e,rfl,rfl⟩|⟨e,d,hd,rfl,rfl⟩
 .rw[e,ak (by decide),show nmP [Z n,O]=[n] from U,bu]at a;rw[a];exact b
 .rw[e,ak (by decide),show nmP [Z n,Z k]=[n,k] from U,aM,bu]at a;rcases a with rfl|rfl
  .exact b
  .exact f
 .rw[e,ak (by decide)]at a;cases a
 .rw[e,aj U]at a;cases a
def IV(s:sh T M d W P a):∃p:Str->Bool,∀x∈oy T,xD [wO T M d W V R c,sP P (va a m),.str x]=Z (.X (p x)):=by
 have h:∀x:Str,∃b:Bool,x∈oy T->xD [wO T M d W V R c,sP P (va a m),.str x]=Z (.X b):=λx=>by
  by_cases f:x∈oy T
  .obtain⟨t,i,rfl⟩:=au.1 f;obtain⟨b,e⟩:=LI s (aQ.1 i).1;exact#v[b,λ_=>e]
  .exact#v[δ,λz=>aq z f]
 exact#v[λx=>(h x).choose,λx=>(h x).choose_spec]
def Vm(s:sh T M j W P a)(w:Mr T M m)(d:((V++v9).flatMap Vb.ws).Nodup)(C:Try T M j W V R c)(hR:∀r∈R,RuS T M V r)(b:v∈V++v9)(e:Cm T W v x y):∃o,Lj [wO T M j W V R c,sP P (va a m),q3 v.n x y]=Z o/\Gd T M P (sP P (va a m)) o:=by obtain⟨p,A⟩:=IV s;refine Vk s w (by unfold thO;split<;>exact aI 2) #v[_,_,U] (acZ s.g d b e) (Kq d b x y) (λz F=>A z (afk e z F)) (C v.n) λr B=>?_;obtain⟨f,i⟩:=aQ.1 B;obtain⟨u,E,I,G,tx,H,rfl,l,q⟩:RuS T M V r:=(aZ.1 f).elim (hR r) (afj s.g r);rw[vb_f d E b (Ov (bh i))]at l q;exact#v[Vj _ _ _ _ _ λt h=>RG s d b e (l t h) 3 (by decide),XZ s w d b e _ _ _ _ _ q]
def afl(i:∀v∈V++v9,v.f∈k4)(l:q∈cmA (oy T) (Ms W) ((V++v9).map nf)):∃v∈V++v9,∃x y,q=q3 v.n x y/\Cm T W v x y:=by
 obtain⟨n,j,l⟩:=dB.1 l;obtain⟨v,m,rfl⟩:=au.1 j;obtain⟨z,a,rfl⟩:=au.1 l;refine#v[v,m,?_];have i:=i v m;unfold obF at a;show ∃x y,p3 v.n z=q3 v.n x y/\Cm T W v x y;by_cases b:v.f="alone"
 .rw[aj (show (nf v).2="alone" from b)]at a;rw[bu.1 a];exact#v[O,O,U,.inr (.inr (.inl #v[b,U,U]))]
 .rw[ak (show ¬(nf v).2="alone" from b)]at a;by_cases c:v.f="way"
  .rw[aj (show (nf v).2="way" from c)]at a;obtain⟨d,hd,rfl⟩:=au.1 a;exact#v[Z d,O,U,.inr (.inr (.inr #v[c,d,hd,U,U]))]
  .rw[ak (show ¬(nf v).2="way" from c)]at a;by_cases e:v.f="one"
   .rw[aj (show (nf v).2="one" from e)]at a;obtain⟨d,hd,rfl⟩:=au.1 a;exact#v[Z d,O,U,.inl #v[e,d,hd,U,U]]
   .rw[ak (show ¬(nf v).2="one" from e)]at a;obtain⟨n,j,a⟩:=dB.1 a;obtain⟨k,p,rfl⟩:=au.1 a;have o:v.f="two" := by
     simp only[k4,aM,cg,or_false]at i;rcases i with h|h|h|h
     .exact aq h e
     .exact h
     .exact aq h b
     .exact aq h c
    exact#v[Z n,Z k,U,.inr (.inl #v[o,n,j,k,p,U,U])]
end
section
def mr0(g:ea T M d W)(h:∀x,(xn (M.map λm=>kS m.n) (M.map λm=>D.int m.st) (kS x)).getD (.int 0)=.int (m x)):Mr T M m:=λq a=>by
 have ndm:(M.map λm=>kS m.n).Nodup:=by have:=AA (cu.1 g.nd).2.1;rw[aY]at this;exact this
 have e:=h q.1;rcases aZ.1 a with a|a
 .obtain⟨t,c,rfl⟩:=au.1 a;rw[Gy λz=>by
   obtain⟨u,b,e⟩:=au.1 z;exact(cu.1 g.nd).2.2 _ (b8 (aQ.1 c).1) _ (b8 b) (Ov e).symm]at e
  injection e with e;rw[<-e];exact#v[nH _,(by decide:(0:Int)<=1)]
 .obtain⟨u,b,rfl⟩:=au.1 a;rw[AQ ndm (by rw[jm];exact au.2 #v[u,b,U])]at e;injection e with e;rw[<-e];have:=g.mo u b;exact#v[this.2.2.1,this.2.2.2]
def afm{m:Nat}{r:Rs}{w:L4.D}(h:Na T M w (vL m) r):RuS T M (vL m) (Z? r):=#v[r.v,h.v,_,_,_,_,U,λt b=>by
 obtain⟨s,a,rfl⟩:=au.1 b;exact(h.t s a).2.2,λt b=>by
 obtain⟨s,a,rfl⟩:=au.1 b;exact(h.d s a).2]
end
def X2{a:List L4.D}(o:0<a.length)(i:Int):∃q∈a,∀{e c:FE} {b:bc},e b=Z (.a3 a,b)->c b=Z (.int i,b)->c2 b3 e (c2 vZ c (c1 w5 e)) b=Z (q,b):=by
 let j:=i % (a.length:Int);have m:0<=j:=jk _ (by omega);have p:j<a.length:=mf _ (by omega);obtain⟨n,h⟩:∃n:Nat,j=(n:Nat):=#v[j.toNat,(Int.toNat_of_nonneg m).symm];have f:n<a.length:=by omega
 refine#v[a[n],fj f,λ{e c b} d l=>vw (y:=.int j) d (vw l (wt d U) ?_) ?_]
 .show (if decide (0<(a.length:Int))=γ then Z (D.int (i % (a.length:Int)))else O)=_;rw[aj (aS (by omega))]
 .rw[h];exact yy (aO f)
def ac0(d:f l=Z (.int i,a))(e:c a=Z (.int j,b))(h:(-1000000<=i/\i<=1000000)/\-1000000<=j/\j<=1000000):iR2 f c l=Z (Iw i (j - i).toNat,b):=by unfold iR2;simp only[d,e];rw[aj h]
def Kr(g:ea T M l W)(N:m<64)(hR:∀r∈R,RuS T M (vL m) r)(H:∀j,gl B dss j=(R++SH (yN T) W).filter λd=>decide (kv d=j))(h:List Int)(b f:Nat)(hi:b<=9/\f<=9):∃P a k,sh T M l W P a/\y3 [wO T M l W (vL m) R (.i0 B (dss.map .a3)),.nq (h.map D.int),dN b,dN f]=Z (sP P (va a k)):=by
 have A:∀v∈vL m,v∈v6:=λv o=>D3 o;let c:L4.D:=.i0 B (dss.map .a3);let V:=vL m;have X:=M4 N;let w:=wO T M l W V R c;let u:=cmA (oy T) (Ms W) ((V++v9).map nf);have F:0<u.length:=by
  refine i3 (a:=q3 "wait" O O) (dB.2 #v[("wait", "alone"),?_,?_])
  .exact au.2 #v[#v["wait", [],"alone", O],bx _ (by simp[v9]),U]
  .unfold cmV obF;rw[aj U];exact au.2 #v[(.U,.U),bu.2 U,U]
 obtain⟨P,k0,pP,eS,hp,I,Y⟩:=Ng g;let C:L4.D->Sl->bc:=λst k=>[.I w,.I (.nq (h.map D.int)),.I (dN b),.I (dN f),.I st,.I (.a3 u),k];let J:=λ(_:Nat) (r:bc)=>∃a k s,r=C (sP P (va a k)) s/\b0 T a/\Mr T M k;obtain⟨d,e,a,k,rfl,i,_⟩:∃d,y3 [w,.nq (h.map D.int),dN b,dN f]=Z d/\∃a k,d=sP P (va a k)/\b0 T a/\Mr T M k:=by
  refine Gb U ?_;refine vC (vT (vy (vt U Y) (vC (vT (w_L (vy (vt U (Ni g A (BS m))) (vC (BU (vy (ac0 U (vw U U U) (by omega)) #v[J,#v[_,_,_,U,inv0 g,mr0 g I],?_,?_])))))))))
  .rintro j d _ hd ⟨a,k,s,rfl,i,p⟩;obtain⟨n,rfl⟩:∃n:Nat,d=.int n:=by unfold Iw at hd;rw[bg]at hd;obtain⟨n,_,rfl⟩:=dZ.1 hd;exact#v[b+n,U]
   obtain⟨z,G⟩:=P3 h (.inl U) n;obtain⟨q,hqm,eq⟩:=X2 F z;obtain⟨v,o,x,y,rfl,hcm⟩:=afl (Va A) hqm;obtain⟨_,e,kx,tx,E,S,rfl,_,_,Q,t⟩:=Vm #v[g,pP,i] p X (λn=>acY H n) hR o hcm;exact#v[C (sP P (va a k)) (.I (.int n)),U,vT (vy (vw (vt (vv U (vv U (vv (eq U (vt U G)) U))) e) U U) #v[E,S,_,U,Q,t])]
  .rintro _ ⟨a,k,s,rfl,i,p⟩;exact wy (vy U #v[a,k,U,i,p])
 exact#v[P,a,k,#v[g,pP,i],e]
def vj:List Nat->List (List Nat)
 |[]=>[[]]
 |x::r=>if x=32 then []::vj r else match vj r with
  |[]=>[[x]]
  |h::t=>(x::h)::t
theorem Np:∀l,∃h t,vj l=h::t
 |[]=>#v[[],[],U]
 |x::r=>by
  obtain⟨h,t,q⟩:=Np r;unfold vj;rw[q];split
  .exact#v[_,_,U]
  .exact#v[_,_,U]
theorem LK:∀a b,vj (a++32::b)=vj a++vj b
 |[],b=>by show vj (32::b)=[]::vj b;rw[vj,aj U]
 |x::a,b=>by rw[j5,vj,vj,LK a b];obtain⟨h,t,q⟩:=Np a;rw[q];split<;>rfl
theorem Ge:∀w,¬32∈w->vj w=[w]
 |[],_=>rfl
 |x::r,h=>by rw[vj,ak λz=>h (by rw[z];exact ba),Ge r λm=>h (a9 _ m)]
def Nq:List (List Nat)->List Nat
 |[]=>[]
 |[p]=>p
 |p::q::r=>p++32::Nq (q::r)
theorem Ks:∀a:List (List Nat),a≠[]->(∀p∈a,¬32∈p)->vj (Nq a)=a
 |[],h,_=>aq U h
 |[p],_,h=>Ge p (h p ba)
 |p::q::r,_,h=>by rw[Nq,LK,Ge p (h p ba),Ks (q::r) (by simp) λx b=>h x (a9 _ b)];rfl
theorem Js:∀a:aB,cd (Str.join " " a)=Nq (a.map cd)
 |[]=>rfl
 |[p]=>rfl
 |p::q::r=>by show cd (p++" " ++ Str.join " " (q::r))=_;rw[BV,BV,Js (q::r),show cd " " = [32] by decide +kernel,b9];rfl
def Nr(x:Str):(cY x " ").map cd=vj (cd x):=by
 have b:(" " : Str)=#v[#[32]]:=by decide +kernel
 have d:=StrLaws.join_split x " ";have c:=StrLaws.split_free x 32;rw[<-b]at c;have h:=uC x " ";have e:cd x=Nq ((cY x " ").map cd):=by rw[<-Js,d]
 rw[e,Ks]
 .intro z;have:=bE cP z;rw[ae,dD]at this;omega
 .intro p a;obtain⟨q,f,rfl⟩:=au.1 a;exact c q f
def kpB(p:List Nat):Bool:=!decide (p=[])&&!decide (p∈[cd "the", cd "a"])
def Wd(l:List Nat):List (List Nat):=(vj l).filter kpB
def Jt(a b:List Nat):Wd (a++32::b)=Wd a++Wd b:=by unfold Wd;rw[LK,mh]
def ON:Wd []=[]:=rfl
def Eb(l:List Nat):Prop:=l=[]\/∃r,l=r++[32]
def Vn(h:Eb l)(x:List Nat):Wd (l++x)=Wd l++Wd x:=by
 rcases h with rfl|⟨r,rfl⟩
 .rfl
 .rw[b9,List.singleton_append,Jt,Jt,ON,cf]
def wd_w(h:¬32∈w)(k:kpB w=γ):Wd w=[w]:=by unfold Wd;rw[Ge w h,gx,aj k];rfl
structure GW(w:Str):Prop where
 fr:¬32∈cd w
 kp:kpB (cd w)=γ
 le:w.length<=12
def gwB(w:Str):Bool:=!decide (32∈cd w)&&(kpB (cd w)&&decide (w.length<=12))
def afo(h:gwB w=γ):GW w:=by unfold gwB at h;simp only[aW,dH,decide_eq_false_iff_not,bK]at h;exact#v[h.1,h.2.1,h.2.2]
def Y9(n:Nat)(h:n<=2):cd (fF " " (n:Int))=fw n 32/\(fF " " (n:Int)).length=n:=by
 obtain rfl|rfl|rfl:n=0\/n=1\/n=2:=by omega
 all_goals exact#v[by decide +kernel,by decide +kernel]
def X3(h:Eb l)(f:Eb a)(d:Wd a=[])(c:¬32∈w)(k:kpB w=γ)(b:n=1\/n=2):Wd (l++a++w++fw n 32)=Wd l++[w]/\Eb (l++a++w++fw n 32):=by
 have e:Wd (w++fw n 32)=[w]:=by
  rcases b with rfl|rfl
  .show Wd (w++32::[])=_;rw[Jt,wd_w c k,ON];rfl
  .show Wd (w++32::([]++32::[]))=_;rw[Jt,Jt,wd_w c k,ON];rfl
 refine#v[by rw[b9,b9,Vn h,Vn f,e,d];rfl,.inr ?_];rcases b with rfl|rfl
 .exact#v[_,U]
 .exact#v[l++a++w++[32],by rw[b9 (l++a++w)];rfl]
theorem Vo:∀{a b:aB},a.map cd=b.map cd->a=b
 |[],[],_=>rfl
 |[],_::_,h=>by cases h
 |_::_,[],h=>by cases h
 |x::a,y::b,h=>by rw[aV,aV]at h;injection h with c d;rw[UU c,Vo d]
def kpS(x:Str):Bool:=!decide (x="")&&!decide (x∈(["the", "a"]:aB))
def afp(x:Str):kpS x=kpB (cd x):=by
 have e:∀y:Str,(cd x=cd y)=(x=y):=λy=>propext #v[UU,λh=>by rw[h]];have a:(cd x=[])=(x=""):=by rw[<-e ""];rfl
 unfold kpS kpB;simp only[aM,cg,or_false,e,a]
def Nt{x:Str}{ws:aB}(l:x.length<=500)(h:Wd (cd x)=ws.map cd):CY [.str x]=Z (.a7 (ws.map D.str)):=by
 have hle:=qU x " ";have e:(cY x " ").filter kpS=ws:=by refine Vo ?_;rw[<-h];unfold Wd;rw[<-Nr,qR];congr 2;exact funext afp
 let b:bc:=[.I (.str x)];have d:iL (cL (Y' aa (cS " "))) b=Z ((cY x " ").map D.str,b):=by refine Cj (wj ?_);show (if _ then _ else _)=_;rw[aj #v[by decide +kernel,by omega]]
 have f:=xx (k:=1) (d3:=[]) (g:=gN 0) (ft:=xI (cT (c2 (cb γ) aa dj)) (cT (c2 (j0 γ) aa kJ))) (fe:=cV 0) D.str D.str kpS (cY x " ") d (by omega) λw t=>#v[[.I (.str w)],[.I (.str w)],U,?_,λt=>#v[_,U,U],λt=>U]
 .refine vJ (ρ:=b) U (vS ?_);show zp _ b=_;unfold zp;rw[wj f,e]
 .have a1:cT (c2 (cb γ) aa dj) [.I (.str w)]=Z (!decide (w=""),[.I (.str w)]):=we (vw U U (xk γ w ""));have c:cT (c2 (j0 γ) aa kJ) [.I (.str w)]=Z (!decide (w∈(["the", "a"]:aB)),[.I (.str w)]):=we (vw U U (AO γ w ["the", "a"]));unfold xI kpS;rw[a1];cases m:!decide (w="")with
  |true=>exact c
  |false=>rfl
theorem AH:∀l:aB,xX (l.map D.str)=Z (l.map L3.Dq.str)/\xf (l.map L3.Dq.str)=0
 |[]=>#v[U,U]
 |x::l=>by obtain⟨a,b⟩:=AH l;rw[aV,aV];refine#v[by unfold xX;rw[a];rfl,by unfold xf;rw[b];unfold fc;rfl]
def Eh(l:aB):iE (.a7 (l.map D.str))=Z (.a7 (l.map L3.Dq.str))/\fc (.a7 (l.map L3.Dq.str))=1:=by obtain⟨a,b⟩:=AH l;exact#v[by unfold iE;rw[a],by rw[fc,b]]
def ac1(e:xX a=Z x)(f:xX b=Z y)(h:xf x<=19)(i:xf y<=19):cb neg (.a7 a) (.a7 b)=Z (.X (if neg then !L3.oz (.a7 x) (.a7 y)else L3.oz (.a7 x) (.a7 y))):=by
 have c:iE (.a7 a)=Z (.a7 x):=by unfold iE;rw[e]
 have d:iE (.a7 b)=Z (.a7 y):=by unfold iE;rw[f]
 unfold cb;rw[show Gu neg (.a7 a) (.a7 b)=O from U];unfold IB;rw[c,d];simp only;rw[aj (by simp only[aW,bK];exact#v[#v[U,by rw[fc];omega],by rw[fc];omega])]
def LL(neg:Bool)(l:aB):cb neg (.a7 (l.map D.str)) (.a7 [])=Z (.X (if neg then !decide (l=[])else decide (l=[]))):=by obtain⟨a,b⟩:=AH l;rw[ac1 a U (by omega) (bR _)];cases l<;>rfl
def ac2(a b:aB):Rr (.a7 []) (.a7 [.a7 (a.map D.str),.a7 (b.map D.str)])=Z (.X (decide (a=[])||decide (b=[]))):=by
 obtain⟨a1,f⟩:=Eh a;obtain⟨c,h⟩:=Eh b;have e:xX [.a7 (a.map D.str),.a7 (b.map D.str)]=Z [.a7 (a.map L3.Dq.str),.a7 (b.map L3.Dq.str)]:=by unfold xX;rw[a1];unfold xX;rw[c];rfl
 show (match iE (.a7 []),xX [.a7 (a.map D.str),.a7 (b.map D.str)]with
  |some d,Z l=>if decide (fc d<=20)&&l.all (λe=>decide (fc e<=20))then Z (D.X (l.any λe=>oz e d))else O
  |_,_=>O)=_
 rw[e,show iE (.a7 [])=Z (.a7 []) from U];simp only;rw[aj (by simp only[gG,List.all_nil,aW,bK];exact#v[by rw[fc];show 0+1<=20;decide,by omega,by omega,trivial])];cases a<;>cases b<;>rfl
def U'(V:List Vb)(x:Str):Option Vb:=V.find? λv=>decide (x∈v.ws)
def vD:Option Vb->L4.D
 |some v=>k3 v
 |none=>.U
def Vp{V:List Vb}(d:(V.flatMap Vb.ws).Nodup)(x:Str):Dp (vwD V) (.str x)=Z (vD (U' V x)):=by
 show Z ((xn (V.flatMap λv=>v.ws.map kS) (V.flatMap λv=>v.ws.map λt=>k3 v) (kS x)).getD .U)=_;cases h:U' V x with
 |some v=>
  rw[AQ]
  .rfl
  .have:=AA d;rw[qE]at this;exact this
  .rw[Oy];exact dB.2 #v[v,lh h,au.2 #v[x,bh (mO (p:=λv:Vb=>decide (x∈v.ws)) h),U]]
 |none=>
  rw[Gy]
  .rfl
  .intro z;obtain⟨v,a,c⟩:=dB.1 z;obtain⟨y,b,e⟩:=au.1 c;have:=l8.1 h v a;rw[<-show y=x by injection e]at this;exact this (aS b)
def xr(j:Str)(r:aB):Bool:=decide (j∉r)||(decide (r.idxOf j=0)||decide (r.idxOf j+1=r.length))
def ac3(x:Str):L4.D:=.a7 [.str "noform", .str x]
def Nu{a:List L4.D}(i:Nat)(h:i<=a.length):fb a O (Z (i:Int))=a.take i:=by
 unfold fb;have e:HT.e7 a.length a.length (Z (i:Int))=i:=by unfold HT.e7;simp only;split<;>omega
 rw[e];simp[HT.e7]
def Ju{ds:List L4.D}(i:Nat)(h:i<=ds.length):fb ds (Z (i:Int)) O=ds.drop i:=by
 unfold fb;have e:HT.e7 ds.length 0 (Z (i:Int))=i:=by unfold HT.e7;simp only;split<;>omega
 rw[e];refine ic ?_;rw[c8];simp[HT.e7]
def Za(h:e ρ=Z (.a7 (x::ds),ρ1)):K9 e (Z 1) O ρ=Z (.a7 ds,ρ1):=by
 have c:=Ju (ds:=x::ds) 1 (Nat.le_add_left 1 _);unfold K9;rw[h];simp only;rw[ak (by
  rintro⟨z,_⟩;have e:HT.e7 (ds.length+1) 0 (Z ((1:Nat):Int))=1:=by unfold HT.e7;simp only;split<;>omega
  exact aq (e.symm.t z) (by decide)),show fb (x::ds) (Z 1) O=ds from c]
def Nv(h:e ρ=Z (.int i,a)):o3 e ρ=Z (Z i,a):=by unfold o3;rw[h]
def Vq(f:e m=Z (.a7 d,a))(h:lo a=Z (l,b))(i:j b=Z (u,c)):Lf e lo j m=Z (.a7 (fb d l u),c):=by unfold Lf;rw[f];simp only[h,i]
def ac4(f:e ρ=Z (.a3 d,a))(h:lo a=Z (l,b))(i:j b=Z (u,c)):Dy e lo j ρ=Z (fb d l u,c):=by unfold Dy;rw[f];simp only[h,i]
set_option r "Gf γ f;Ei δ g" in def ϑ0(h:q ρ=Z (ϑ1,ρ1)):mw q f g ρ=ϑ2 ρ1:=by unfold mw;rw[h]
def tp(p:aB):L4.D:=.a7 (p.map D.str)
def Vr{r:aB}(q:r.length<=100):Ai [.a7 (r.map D.str),.str j]=Z (if xr j r=γ then .U else .a7 [tp (r.take (r.idxOf j)),tp (r.drop (r.idxOf j+1))]):=by
 let A:Sl:=.I (.a7 (r.map D.str));let J:Sl:=.I (.str j);have c:cT (c2 (j0 γ) ag aa) [A,J,.un,.un]=Z (!decide (j∈r),[A,J,.un,.un]):=we (vw U U (AO γ j r));refine xV U ?_;by_cases a:j∈r
 .rw[aS a]at c;have p:=jI.2 a;have i:c2 pw aa ag [A,J,.un,.un]=Z (.int (r.idxOf j:Nat),[A,J,.un,.un]):=vw U U (by
   show (match B5 (r.map D.str)with
    |some e=>if j∈e/\e.length<=1000 then Z (D.int (e.idxOf j:Nat))else O
    |none=>O)=_
   rw[Ck];exact aj #v[a,by omega])
  let I:Sl:=.I (dN (r.idxOf j));have l:vQ sR [A,J,I,.un]=Z (.a7 [.a7 ((r.take (r.idxOf j)).map D.str),.a7 ((r.drop (r.idxOf j+1)).map D.str)],[A,J,I,.un]):=by
   refine xu (vv (ρ1:=[A,J,I,.un]) ?_ (vv ?_ U)) (bG U)
   .show Z (D.a7 (fb (r.map D.str) O (Z ((r.idxOf j:Nat):Int))),_)=_;rw[Nu _ (by rw[ae];omega),fU]
   .show Z (D.a7 (fb (r.map D.str) (Z ((r.idxOf j:Int)+1)) O),_)=_;rw[show (r.idxOf j:Int)+1=((r.idxOf j+1:Nat):Int) from U,Ju _ (by rw[ae];omega),fT]
  have m:(decide (r.take (r.idxOf j)=[])||decide (r.drop (r.idxOf j+1)=[]))=xr j r:=by
   unfold xr;rw[show decide (¬j∈r)=δ from aP (λz=>z a),mY];congr 1
   .refine decide_eq_decide.2 #v[λz=>?_,λz=>by rw[z];rfl];have:=bE cP z;rw[cv,dD]at this;omega
   .refine decide_eq_decide.2 #v[λz=>?_,λz=>List.drop_of_length_le (by omega)];have:=bE cP z;rw[c8,dD]at this;omega
  let K:Sl:=.I (.a7 [.a7 ((r.take (r.idxOf j)).map D.str),.a7 ((r.drop (r.idxOf j+1)).map D.str)]);have f:=ac2 (r.take (r.idxOf j)) (r.drop (r.idxOf j+1));rw[m]at f;have d:cT (c2 Rr (vQ vP) ay) [A,J,I,K]=Z (xr j r,[A,J,I,K]):=we (vw U U f);refine e4 c (vC (vT (vy i (vC (vT (vy l (wy (vy (b:=[A,J,I,K]) ?_ U))))))));cases h:xr j r with
  |true=>rw[h]at d;exact Gf d
  |false=>rw[h]at d;exact Ei d
 .rw[aP a]at c;have n:xr j r=γ:=by unfold xr;rw[aS a];rfl
  rw[aj n];exact j2 c (wy (vy U U))
def fq(v:Vb)(c:Str)(h:cV i ρ=Z (k3 v,ρ)):cT (c2 (cb δ) (c1 (vF yp "form") (cV i)) (cS c)) ρ=Z (decide (v.f=c),ρ):=we (vw (wt h U) U (xk δ _ _))
def Vt{l:aB}(h:cV i a=Z (.a7 (l.map D.str),a)):c1 w5 (cV i) a=Z (dN l.length,a):=wt h (by show Z (D.int _)=_;rw[ae])
def len0{l:aB}(h:cV i ρ=Z (.a7 (l.map D.str),ρ)):cT (c2 DG (c1 w5 (cV i)) av) ρ=Z (!decide (l=[]),ρ):=we (vw (Vt h) U (by
 show Z (D.X (decide ((l.length:Int) > 0)))=_;cases l with
 |nil=>rfl
 |cons x l=>rw[aS (by rw[aU];omega)];rfl))
def sq(f c:Str)(h:cV i ρ=Z (.str f,ρ)):cT (c2 (cb δ) (cV i) (cS c)) ρ=Z (decide (f=c),ρ):=we (vw h U (xk δ _ _))
def atL(r:aB)(j:Str):List Nat:=(aC r.length).filter λk=>decide (r.getD k "" = j)
def ac5(r:aB)(j:Str)(h:j∉r):atL r j=[]:=by unfold atL;rw[i4];intro k a e;have a:=bB.1 a;exact h (bh e▸wL a)
def X4(r:aB)(j:Str)(h:j∈r):∃l,atL r j=r.idxOf j::l:=by
 have a:=jI.2 h;have e:(atL r j).head?=Z (r.idxOf j):=by
  unfold atL;rw[qm];refine List.find?_range_eq_some.2 #v[?_,bB.2 a,λk c=>?_]
  .rw[bK,bQ,aO a];simpa using pX a
  .have b:k<r.length:=by omega
   have:=IU c b;rw[dH,decide_eq_false_iff_not,bQ,aO b];intro z;rw[show r[k]=j from z]at this;simp at this
 cases q:atL r j with
 |nil=>rw[q]at e;cases e
 |cons x l=>rw[q]at e;cases e;exact#v[l,U]
def X5:∀l:List Nat,cb δ (.a3 (l.map dN)) (.a3 [])=Z (.X (decide (l=[]))):=by
 have h:∀l:List Nat,∃m,xX (l.map dN)=Z m/\xf m=0/\m.length=l.length:=λl=>by
  induction l with
  |nil=>exact#v[[],U,U,U]
  |cons x l e=>obtain⟨m,a,b,c⟩:=e;refine#v[.int x::m,by rw[aV];unfold xX;rw[a];rfl,by unfold xf;rw[b];unfold fc;rfl,by rw[aU,aU,c]]
 intro l;obtain⟨m,a,b,c⟩:=h l;have d:iE (.a3 (l.map dN))=Z (.a3 m):=by unfold iE;rw[a]
 unfold cb;rw[show Gu δ (.a3 (l.map dN)) (.a3 [])=O from U];unfold IB;rw[d,show iE (.a3 [])=Z (.a3 []) from U];simp only;rw[aj (by simp only[aW,bK];exact#v[#v[U,by rw[fc,b];decide],by rw[fc];show 0+1<=20;decide])];cases l<;>cases m<;>first|rfl|cases c
def n_eq(a b:Nat):cb δ (dN a) (dN b)=Z (.X (decide (a=b))):=by rw[xW];congr 2;exact decide_eq_decide.2 (by omega)
def XF(v:Vb)(r:aB):Option (List aB):=if v.f="two" then (if xr (v.j.getD "") r=γ then O else Z [r.take (r.idxOf (v.j.getD "")),r.drop (r.idxOf (v.j.getD "")+1)])else if v.f="alone" then (if r=[]then Z []else O)else if r=[]\/v.f="way" /\ 1<r.length then O else Z [r]
set_option r "tps 7;lps 3" in def ϑ0:Option (List aB)->L4.D
 |none=>.U
 |some a=>.aϑ1 (a.map tp)
def lenQ{l:aB}{i:Nat}(n:Nat){ρ:bc}(h:cV i ρ=Z (.a7 (l.map D.str),ρ)):cT (c2 (cb δ) (c1 w5 (cV i)) (cC (dN n))) ρ=Z (decide (l.length=n),ρ):=we (vw (Vt h) U (by
 rw[xW];congr 2;exact decide_eq_decide.2 (by omega)))
def afr(v:Vb)(r:aB)(m:r.length<=100)(h:v.f="two" -> ∃j,v.j=Z j):CZ [k3 v,tp r]=Z (tps (XF v r)):=by
 unfold XF;by_cases a:v.f="two"
 .obtain⟨j,l⟩:=h a;rw[aj a,l];refine xV U (e4 ((fq v "alone" U).t (by rw[a];rfl)) (j2 ((fq v "two" U).t (by rw[aS a])) (wy (vy (vt (vv U (vv (d:=.str j) (wt U ?_) U)) (Vr m)) ?_))))
  .show Z (oS v.j)=_;rw[l];rfl
  .show (if xr j r=γ then D.U else _)=tps (if xr j r=γ then _ else _);cases xr j r<;>rfl
 rw[ak a];have e:=λn=>lenQ (i:=1) n (ρ:=[.I (k3 v),.I (.a7 (r.map D.str))]) U;by_cases b:v.f="alone"
 .rw[aj b];refine xV U (j2 ((fq v "alone" U).t (by rw[aS b])) (wy ?_));have e:=e 0;cases r with
  |nil=>exact vy ((Gf e)) U
  |cons x r=>exact vy ((Ei e)) U
 rw[ak b];refine xV U (e4 ((fq v "alone" U).t (by rw[aP b])) (e4 ((fq v "two" U).t (by rw[aP a])) ?_));by_cases c:v.f="way"
 .refine j2 ((fq v "way" U).t (by rw[aS c])) (wy ?_);have e:=e 1
  match r,e with
  |[],e=>exact vy ((Ei e)) U
  |[x],e=>rw[ak (by simp)];exact vy ((Gf e)) U
  |x::y::r,e=>rw[aj (.inr #v[c,by simp])];exact vy ((Ei (e.t (by rw[aP (by simp)])))) U
 .refine e4 ((fq v "way" U).t (by rw[aP c])) (wy ?_);have e:=len0 (i:=1) (ρ:=[.I (k3 v),.I (.a7 (r.map D.str))]) U;cases r with
  |nil=>exact vy ((Ei e)) U
  |cons x r=>rw[ak (by rintro(z|⟨z,_⟩);cases z;exact c z)];exact vy ((Gf e)) U
def ac6(j:Str)(r:aB)(t:r.length<=100):ya [.str "two", .str j,tp r]=Z (if xr j r=γ then .U else .a3 [tp (r.take (r.idxOf j)),tp (r.drop (r.idxOf j+1))]):=by
 let A:Sl:=.I (.str "two");let J:Sl:=.I (.str j);let a:Sl:=.I (.a7 (r.map D.str));have o:cL (vE 1 [1,2] (r? (c1 w5 ah)) (gN 0) (cT (c2 (cb δ) (c2 b3 ah aa) ag)) aa) [A,J,a,.un]=Z (.a3 ((atL r j).map dN),[A,J,a,.un]):=by refine wj (xx (λk:Nat=>dN k) dN (λk=>decide (r.getD k "" = j)) (aC r.length) (Jp (Vt U) (by omega)) (by rw[bL];omega) λk c=>#v[[.I (dN k),J,a],[.I (dN k),J,a],U,we (vw (vw U U (yy ?_)) U (xk δ _ _)),λs=>#v[_,U,U],λs=>U]);have c:=bB.1 c;rw[bg,aO c,bQ,aO c];rfl
 refine xV U (e4 (sq "two" "alone" U) (j2 (sq "two" "two" U) (vC (vT (vy o ?_)))));let L:Sl:=.I (.a3 ((atL r j).map dN));refine X? (R:=λp=>p=[A,J,a,L]) U ?_;rintro _ rfl;have e:cT (c2 (cb δ) ay (cL (vO vP))) [A,J,a,L]=Z (decide (atL r j=[]),[A,J,a,L]):=we (vw U U (X5 _));by_cases b:j∈r
 .obtain⟨l,i⟩:=X4 r j b;have q:=jI.2 b;rw[i]at e;have d:c2 b3 ay av [A,J,a,L]=Z (dN (r.idxOf j),[A,J,a,L]):=vw U U (by rw[i];exact yy U);have f:cT (c2 (cb δ) (c2 b3 ay av) av) [A,J,a,L]=Z (decide (r.idxOf j=0),[A,J,a,L]):=we (vw d U (n_eq _ 0));have q3:cT (c2 (cb δ) (c2 b3 ay av) (c2 Ep (c1 w5 ah) az)) [A,J,a,L]=Z (decide (r.idxOf j+1=r.length),[A,J,a,L]):=by refine we (vw d (vw (Vt U) U U) ?_);rw[xW];congr 2;exact decide_eq_decide.2 (by omega)
  have h:xG (cT (c2 (cb δ) ay (cL (vO vP)))) (xG (cT (c2 (cb δ) (c2 b3 ay av) av)) (cT (c2 (cb δ) (c2 b3 ay av) (c2 Ep (c1 w5 ah) az)))) [A,J,a,L]=Z (xr j r,[A,J,a,L]):=by
   unfold xr;rw[aP (λz=>z b),mY];refine(yD e ?_);by_cases z:r.idxOf j=0
   .rw[aS z]at f ⊢;unfold xG;rw[f];rfl
   .rw[aP z]at f ⊢;exact yD f q3
  cases m:xr j r with
  |true=>rw[m]at h;rw[aj U];exact j2 h (wy (vy U U))
  |false=>rw[m]at h;rw[ak (by decide)];refine e4 h (OB (vy (IG (vv (Vq U U (Nv d)) (vv (Vq U (Nv (vw d U U)) U) U)) (bG U)) ?_));rw[Nu _ (by rw[ae];omega),show (((r.idxOf j:Nat):Int)+1)=((r.idxOf j+1:Nat):Int) from U,Ju _ (by rw[ae];omega)];unfold tp;rw[fU,fT]
 .rw[ac5 r j b]at e;have n:xr j r=γ:=by unfold xr;rw[aS b];rfl
  rw[aj n];exact j2 (by unfold xG;rw[e];rfl) (wy (vy U U))
def Vu(j:L4.D)(r:aB):ya [.str "alone", j,.a7 (r.map D.str)]=Z (if r=[]then .a3 []else .U):=by
 refine xV U (j2 (sq "alone" "alone" U) (wy ?_));have e:=LL γ r;cases r with
 |nil=>exact vy (vw U (wt (vw U U e) U) U) U
 |cons x r=>exact vy (vw U (wt (vw U U e) U) U) U
def X6(f:Str)(j:L4.D)(r:aB)(i:f≠"alone")(l:f≠"two"):ya [.str f,j,.a7 (r.map D.str)]=Z (if r=[]\/f="way" /\ 1<r.length then .U else .a3 [.a7 (r.map D.str)]):=by
 let A:Sl:=.I (.str f);let J:Sl:=.I j;let c:Sl:=.I (.a7 (r.map D.str));have d:cT (c2 (cb δ) ah (vQ vP)) [A,J,c,.un]=Z (decide (r=[]),[A,J,c,.un]):=we (vw U U (LL δ r));have e:cT (c2 (cb δ) aa c5) [A,J,c,.un]=Z (decide (f="way"),[A,J,c,.un]):=sq f "way" U;have q3:cT (c2 DG (c1 w5 ah) az) [A,J,c,.un]=Z (decide (1<r.length),[A,J,c,.un]):=we (vw (Vt U) U (by
  show Z (D.X (decide ((r.length:Int) > 1)))=_;congr 2;exact decide_eq_decide.2 (by omega)))
 have h:xG (cT (c2 (cb δ) ah (vQ vP))) (xI (cT (c2 (cb δ) aa c5)) (cT (c2 DG (c1 w5 ah) az))) [A,J,c,.un]=Z (decide (r=[]\/f="way" /\ 1<r.length),[A,J,c,.un]):=by
  by_cases a:r=[]
  .rw[aS a]at d;rw[aS (.inl a)];unfold xG;rw[d]
  .rw[aP a]at d;refine yD d ?_;by_cases b:f="way"
   .rw[aS b]at e;refine(BW e q3).t ?_;congr 2;exact decide_eq_decide.2 #v[λz=>.inr #v[b,z],λz=>(z.resolve_left a).2]
   .rw[aP b]at e;rw[aP λz=>b (z.resolve_left a).1];exact OF e
 refine xV U (e4 ((sq f "alone" U).t (by rw[aP i])) (e4 ((sq f "two" U).t (by rw[aP l])) ?_));by_cases z:r=[]\/f="way" /\ 1<r.length
 .rw[aS z]at h;rw[aj z];exact j2 h (wy (vy U U))
 .rw[aP z]at h;rw[ak z];exact e4 h (OB (vy U U))
def afs(v:Vb)(r:aB)(d:r.length<=100)(h:v.f="two" -> ∃j,v.j=Z j):ya [.str v.f,oS v.j,tp r]=Z (lps (XF v r)):=by
 unfold XF;by_cases a:v.f="two"
 .obtain⟨j,c⟩:=h a;rw[aj a,a,c];refine(ac6 j r d).t ?_;show Z (if xr j r=γ then D.U else _)=Z (lps (if xr j r=γ then _ else _));cases xr j r<;>rfl
 rw[ak a];by_cases b:v.f="alone"
 .rw[aj b,b];refine(Vu _ r).t ?_;split<;>rfl
 rw[ak b];refine(X6 v.f _ r b a).t ?_;split<;>rfl
def Nw(q:Str->Bool)(L:aB):(wQ L).filter q=wQ (L.filter q):=
 lj (λa b s s=>IR a b) ((iV GA FH L).filter q) (iV GA FH _) (((dy L sm).filter q).t (dy _ sm).symm)
def hwB(p:aB)(t:Th):Bool:=p.all λx=>decide (x∈t.w)
def cmdT(v:Vb)(acc:aB):L4.D:=.a7 [.str "command", .a7 [.str v.n,(acc.map D.str++[D.U,D.U]).getD 0 D.U,(acc.map D.str++[D.U,D.U]).getD 1 D.U]]
def Nx(p:aB):L4.D:=.a7 [.str "none", tp p]
def LM(p l:aB):L4.D:=.a7 [.str "which", tp p,tp l]
def U?(v:Vb)(f:aB->aB):List aB->aB->L4.D
 |[],acc=>cmdT v acc
 |p::a,acc=>match f p with
  |[]=>Nx p
  |[x]=>U? v f a (acc++[x])
  |l=>LM p l
def Ny{v:Vb}{f:aB->aB}{a:List aB}{m:Nat}{p:aB}(h:a[m]?=Z p)(acc:aB):U? v f (a.drop m) acc=match f p with
  |[]=>Nx p
  |[x]=>U? v f (a.drop (m+1)) (acc++[x])
  |l=>LM p l:=by
 obtain⟨b,e⟩:=bY.1 h;rw[iR b,e];rfl
section
variable{V:List Vb}
def Zb(g:ea T M a W)(b:t∈T)(p:aB)(d:p.length<=100):zj [wO T M a W V R c,.str t.n,tp p]=Z (.X (hwB p t)):=by let w:=wO T M a W V R c;refine xV U (wy (vy (wt (wj (xq D.str (λx=>.X (decide (x∈t.w))) p U (by omega) λx s=>#v[[.I (.str x),.I (.str t.n),.I w],[.I (.str x),.I (.str t.n),.I w],U,vw U (wt (OL U U U U (z9 g.t? b)) U) (AO δ x t.w),U])) (K5 p λx=>decide (x∈t.w))) U))
def LN(s:sh T M f W P a):∃Q:Str->Bool,A9 [wO T M f W V R c,sP P (va a m)]=Z ((wQ ((T.filter λt=>Q t.n).map Th.n)).map D.str):=by
 let w:=wO T M f W V R c;let S:=sP P (va a m);have hT:=s.g.len;let q:=λx=>match xD [w,S,.str x]with
  |some (.X b)=>b
  |_=>δ
 have h:∀t∈T,xD [w,S,.str t.n]=Z (.X (q t.n)):=λt d=>by obtain⟨b,e⟩:=LI s d;show _=Z (D.X (match xD [w,S,.str t.n]with|some (.X b)=>b|_=>δ));rw[e]
 let p:Th->Bool:=λt=>q t.n;have e:=xx (k:=1) (d3:=[0,1]) (g:=gN 0) (ft:=cT (vx xD jE)) (fe:=cV 0) (ρ:=[.I w,.I S]) (s:=iL (vU yI "names" aa vP)) (λt:Th=>D.str t.n) (λt:Th=>D.str t.n) p T (Cj (wb U U U U (Kp T hT))) (by omega) λt d=>#v[[.I (.str t.n),.I w,.I S],[.I (.str t.n),.I w,.I S],U,we (vt U (h t d)),λ_=>#v[_,U,U],λ_=>U];refine#v[q,Ab (ρ:=[.I w,.I S]) U (xF ?_)];show CC _ [.I w,.I S]=_;unfold CC;rw[wj e];simp only;rw[show ((T.filter p).map λt=>D.str t.n)=((T.filter p).map Th.n).map D.str by rw[aY];rfl,Ck];simp only;rw[aj (by rw[ae];exact gn (cy _ _) (by omega))]
def ub(T:List Th)(Q:Str->Bool)(p:aB):aB:=wQ (((T.filter λt=>Q t.n).filter (hwB p)).map Th.n)
def Jv(L:aB):(wQ L).length=L.length:=(dy L sm).length_eq
def gt1(n:Nat):DG (dN n) (D.int 1)=Z (.X (decide (1<n))):=by show Z (D.X (decide ((n:Int) > 1)))=_;congr 2;exact decide_eq_decide.2 (by omega)
def Vv(g:ea T M d W)(Q:Str->Bool)(p:aB)(f:p.length<=100):cL (vE 1 [0,6] (iL aG) (gN 0) (cT (vx zj (ax ag dw))) aa) [.I (wO T M d W V R c),A,B,E,.I (.a3 ((wQ ((T.filter λt=>Q t.n).map Th.n)).map D.str)),F,.I (tp p),X,Y]=Z (.a3 ((ub T Q p).map D.str),[.I (wO T M d W V R c),A,B,E,.I (.a3 ((wQ ((T.filter λt=>Q t.n).map Th.n)).map D.str)),F,.I (tp p),X,Y]):=by
 have hT:=g.len;let w:=wO T M d W V R c;let q:=λx=>match zj [w,.str x,tp p]with
  |some (.X b)=>b
  |_=>δ
 have h:∀t∈T,q t.n=hwB p t:=λt a=>by show (match zj [w,.str t.n,tp p]with|some (.X b)=>b|_=>δ)=_;rw[Zb g a p f]
 have e:ub T Q p=(wQ ((T.filter λt=>Q t.n).map Th.n)).filter q:=by rw[Nw,qR];unfold ub;congr 2;exact ql λt a=>(h t (aQ.1 a).1).symm
 rw[e];refine wj (xx D.str D.str q (wQ ((T.filter λt=>Q t.n).map Th.n)) U ?_ λx i=>?_)
 .rw[Jv,ae];exact bz (cy _ _) (by omega)
 .obtain⟨t,a,rfl⟩:=au.1 ((dy _ sm).mem_iff.1 i);have a:=(aQ.1 a).1;exact#v[[.I (.str t.n),.I w,.I (tp p)],[.I (.str t.n),.I w,.I (tp p)],U,we (vt U ((Zb g a p f).t (by rw[h t a]))),λs=>#v[_,U,U],λs=>U]
def ac7(s:sh T M o W P a)(A:A9 [wO T M o W V R c,sP P (va a m)]=Z ((wQ ((T.filter λt=>Q t.n).map Th.n)).map D.str))(v:Vb)(u:∀p∈j,p.length<=100)(r:j.length<=2):BO [wO T M o W V R c,sP P (va a m),k3 v,.a7 (j.map tp)]=Z (U? v (ub T Q) j []):=by
 let w:Sl:=.I (wO T M o W V R c);let S:Sl:=.I (sP P (va a m));let B:Sl:=.I (k3 v);let E:Sl:=.I (.a7 (j.map tp));let L:Sl:=.I (.a3 ((wQ ((T.filter λt=>Q t.n).map Th.n)).map D.str));let J:=λ(i:Nat) (C:bc)=>∃(acc:aB) (x y:Sl),C=[w,S,B,E,L,.Y (acc.map D.str),x,y,.un]/\acc.length<=i/\U? v (ub T Q) j []=U? v (ub T Q) (j.drop i) acc;refine xV U (vC (vT (vy (wj (vt U A)) ?_)));refine vC (z8 U (vC (BU (vy U #v[J,#v[[],_,_,U,aI _,U],?_,?_]))))
 .rintro i d _ hd ⟨acc,x,y,rfl,h,b⟩;rw[bg]at hd;obtain⟨p,hpi,rfl⟩:=dZ.1 hd;have F:=(bY.1 hpi).1;rw[Ny hpi]at b;refine#v[[w,S,B,E,L,.Y (acc.map D.str),.I (tp p),y,.un],U,vC (vT (vy (Vv s.g Q p (u p (bV hpi))) ?_))];refine X? U ?_;rintro _ rfl;generalize ub T Q p=N at b ⊢;have e:cT (c2 (cb δ) (c1 w5 bP) av) [w,S,B,E,L,.Y (acc.map D.str),.I (tp p),.I (.a3 (N.map D.str)),.un]=Z (decide (N.length=0),[w,S,B,E,L,.Y (acc.map D.str),.I (tp p),.I (.a3 (N.map D.str)),.un]):=we (vw (Hy D.str U) U (n_eq _ 0));have f:cT (c2 DG (c1 w5 bP) az) [w,S,B,E,L,.Y (acc.map D.str),.I (tp p),.I (.a3 (N.map D.str)),.un]=Z (decide (1<N.length),[w,S,B,E,L,.Y (acc.map D.str),.I (tp p),.I (.a3 (N.map D.str)),.un]):=we (vw (Hy D.str U) U (gt1 _))
  match N,b,e,f with
  |[],b,e,f=>exact j2 e (wy (vy U b.symm))
  |[z],b,e,f=>exact e4 e (e4 f (D5 (vy (za U U U (by rw[ae];omega)) #v[acc++[z],_,_,by rw[aX];rfl,by rw[aA];exact j6 h,b])))
  |z::q::l,b,e,f=>rw[show decide (1<(z::q::l).length)=γ from aS (by rw[aU,aU];omega)]at f;exact e4 e (j2 f (wy (vy U b.symm)))
 .rintro _ ⟨acc,x,y,rfl,h,b⟩;rw[ae]at h b;rw[mG]at b;rw[b]
  match acc,h with
  |[],_=>exact vC (vT (vy U (wy (vy U U))))
  |[z],_=>exact vC (vT (vy U (wy (vy U U))))
  |[z,q],_=>exact vC (vT (vy U (wy (vy U U))))
  |_::_::_::l,h=>exact aq (bz h r) (by simp)
end
set_option r "Jw verb;Zc way" in def ϑ0(x:Str):L4.D:=.a7 [.str "noϑ1", .str x]
def cmdD(x:Str)(w:Option Str):L4.D:=.a7 [.str "command", .a7 [.str x,oS w,.U]]
def wyF(W:List Wy)(x:Str):List Wy:=W.filter λw=>decide (w.w=x)
def X7(W:List Wy)(v:Vb)(x:Str):L4.D:=if wyF W x=[]then Zc x else cmdD v.n (Z x)
def ans(W:List Wy)(v:Vb)(f:aB->aB)(r:aB):L4.D:=match XF v r with
 |none=>ac3 v.n
 |some a=>if v.f="way" then X7 W v (r.getD 0 "")else U? v f a []
def Vw(V:List Vb)(W:List Wy)(f:aB->aB):aB->L4.D
 |[]=>Jw ""
 |y::r=>match U' V y with
  |none=>Jw y
  |some v=>ans W v f r
set_option h true
def Qg(h:XF v r=Z b)(a:v.f="way"):∃x,r=[x]/\b=[[x]]:=by
 unfold XF at h;rw[a,ak (by decide),ak (by decide)]at h;split at h
 .cases h
 .rename_i k;cases h
  match r,k with
  |[],k=>exact aq (.inl U) k
  |[x],_=>exact#v[x,U,U]
  |x::y::r,k=>exact aq (.inr #v[U,by simp]) k
set_option h false
def Vx(h:XF v r=Z b):b.length<=2/\∀p∈b,p.length<=r.length:=by
 unfold XF at h;split at h
 .split at h
  .cases h
  .cases h;refine#v[aI 2,λp a=>?_];rcases aM.1 a with rfl|a
   .exact lL ..
   .rw[bu.1 a,c8];omega
 .split at h
  .split at h
   .cases h;exact#v[bR _,nofun]
   .cases h
  .split at h
   .cases h
   .cases h;exact#v[fW 1,λp a=>by rw[bu.1 a];exact aI _]
def X8(h:xX (x::xs)=Z l)(hd:xf l<=19):cb δ (.a3 (x::xs)) (.a3 [])=Z (.X δ):=by
 have a:iE (.a3 (x::xs))=Z (.a3 l):=by unfold iE;rw[h]
 unfold cb;rw[show Gu δ (.a3 (x::xs)) (.a3 [])=O from U];show IB δ _ _=_;unfold IB;rw[a,show iE (.a3 [])=Z (.a3 []) from U];simp only;rw[aj (by simp only[aW,bK];exact#v[#v[U,by rw[fc];omega],by rw[fc];show 0+1<=20;decide])];cases l with
 |nil=>
  unfold xX at h;split at h
  .split at h<;>cases h
  .cases h
 |cons y l=>rfl
theorem Qh:∀l:List Vb,∃m,xX (l.map mu)=Z m/\xf m<=2
 |[]=>#v[[],U,by decide]
 |v::l=>by
  obtain⟨m,b,c⟩:=Qh l;obtain⟨i,p⟩:=Eh v.o;have a:∃j,iE (oS v.j)=Z j/\fc j=0:=by cases v.j with
   |none=>exact#v[_,U,by unfold fc;rfl]
   |some x=>exact#v[_,U,by unfold fc;rfl]
  obtain⟨j,d,h⟩:=a;have e:iE (mu v)=Z (.a7 [.str v.n,.a7 (v.o.map L3.Dq.str),.str v.f,j]):=by
   show (match xX [.str v.n,.a7 (v.o.map D.str),.str v.f,oS v.j]with
    |some l=>Z (L3.Dq.a7 l)
    |none=>O)=_
   have:xX [.str v.n,.a7 (v.o.map D.str),.str v.f,oS v.j]=Z [.str v.n,.a7 (v.o.map L3.Dq.str),.str v.f,j]:=by unfold xX;rw[show iE (.str v.n)=Z (.str v.n) from U];unfold xX;rw[i];unfold xX;rw[show iE (.str v.f)=Z (.str v.f) from U];unfold xX;rw[d];rfl
   rw[this]
  refine#v[.a7 [.str v.n,.a7 (v.o.map L3.Dq.str),.str v.f,j]::m,by rw[aV];unfold xX;rw[e,b],?_];unfold xf;refine nM.2 #v[?_,c];rw[fc];simp only[xf,(AH v.o).2,h,fc];decide
section
variable{T:List Th}{V:List Vb}{Q:Str->Bool}
def ac8(hW:W.length<=60)(v:Vb)(x:Str):E3 [wO T M dk W V R c,k3 v,.str x]=Z (if wyF W x=[]then Zc x else cmdD v.n (Z x)):=by
 have e:=LJ (T:=T) (M:=M) (dk:=dk) (V:=V) (R:=R) (c:=c) hW;have b:∀x,x∈Ms W ↔ x∈W.map Wy.w:=λx=>(List.mem_mergeSort).t Lg;generalize Ms W=l at e b;have q:cT (c2 (j0 γ) ah (vU xM "way_words" aa vP)) [.I (wO T M dk W V R c),.I (k3 v),.I (.str x)]=Z (!decide (x∈l),_):=we (vw U (wb U U U U e) (yX γ x l));have z:(x∈l) ↔ ¬wyF W x=[]:=by
  rw[b];unfold wyF;rw[i4];constructor
  .rintro h k;obtain⟨w,a,e⟩:=au.1 h;exact k w a (aS e)
  .intro h;refine lg λk=>h λw a e=>k (au.2 #v[w,a,bh e])
 refine xV U ?_;by_cases h:wyF W x=[]
 .rw[aP (λy=>z.1 y h)]at q;rw[aj h];exact j2 q (wy (vy U U))
 .rw[aS (z.2 h)]at q;rw[ak h];exact e4 q (wy (vy U U))
def X9(s:sh T M o W P a)(H:A9 [wO T M o W V R c,sP P (va a m)]=Z ((wQ ((T.filter λt=>Q t.n).map Th.n)).map D.str))(N:((V++v9).flatMap Vb.ws).Nodup)(J:U' (V++v9) "" = O)(G:∀v∈V++v9,v.f="two" -> ∃j,v.j=Z j)(hW:W.length<=60)(I:CY [.str x]=Z (tp ws))(d:ws.length<=100):Ja [wO T M o W V R c,sP P (va a m),.str x]=Z (Vw (V++v9) W (ub T Q) ws):=by
 let w:=wO T M o W V R c;let A:Sl:=.I w;let S:Sl:=.I (sP P (va a m));let X:Sl:=.I (.str x);have C:∀y:Str,yt [w,.str y]=Z (vD (U' (V++v9) y)):=λy=>xV U (wy (vy (vw U U (Vp N y)) U));refine xV U (vC (vT (vy (vt U I) ?_)));let q:Sl:=.I (tp ws);refine X? (R:=λE=>E=[A,S,X,q,.un,.un,.un]) U ?_;rintro _ rfl;have B:=len0 (l:=ws) (i:=3) (ρ:=[A,S,X,q,.un,.un,.un]) U;cases ws with
 |nil=>refine vC (vT (vy ((Ei B).t U) (vC (vT (vy (wb U U U U (C "")) ?_)))));rw[J];exact j2 U (wy (vy U U))
 |cons y r=>
  refine vC (vT (vy ((Gf B).t (vw U U (z:=D.str y) (yy (xs:=(y::r).map D.str) (j:=0) U))) (vC (vT (vy (wb U U U U (C y)) ?_)))));show Ws _ _ (λe _=>e=match U' (V++v9) y with
   |none=>Jw y
   |some v=>ans W v (ub T Q) r)
  cases F:U' (V++v9) y with
  |none=>exact j2 U (wy (vy U U))
  |some v=>
   have d:r.length<=100:=jY d;refine e4 U (vC (vT (vy (vt (vv U (vv (Za U) U)) (afr v r d (G v (lh F)))) ?_)));show Ws _ _ (λe _=>e=ans W v (ub T Q) r);unfold ans;cases u:XF v r with
   |none=>exact j2 U (wy (vy U U))
   |some Y=>
    simp only;refine e4 U ?_;by_cases b:v.f="way"
    .obtain⟨x,rfl,rfl⟩:=Qg u b;rw[aj b];exact j2 ((fq v "way" U).t (by rw[aS b])) (wy (vy (vt U (ac8 hW v x)) U))
    .rw[ak b];obtain⟨p2,pl⟩:=Vx u;exact e4 ((fq v "way" U).t (by rw[aP b])) (wy (vy (vt U (ac7 s H v (λp h=>bz (pl p h) d) p2)) U))
def Vy(l:aB):p' (.a3 (l.map D.str)) (.a3 [])=Z (.X (decide (l=[]))):=by cases l<;>rfl
def ac9(p:aB)(t:Th):decide (p.filter (λx=>!decide (x∈t.w))=[])=hwB p t:=by
 unfold hwB;cases h:p.all λx=>decide (x∈t.w)with
 |true=>exact aS (i4.2 λx a=>by rw[aH.1 h x a];decide)
 |false=>
  refine aP λz=>?_;rw[aH.2 λx a=>?_]at h
  .cases h
  .have:=i4.1 z x a;cases q:decide (x∈t.w)with
   |true=>rfl
   |false=>rw[q]at this;exact aq U this
def Vz(a:t∈T):decide (t.n∈wQ ((T.filter λt=>Q t.n).map Th.n))=Q t.n:=by
 cases h:Q t.n with
 |true=>exact aS ((dy _ sm).mem_iff.2 (b8 (aQ.2 #v[a,h])))
 |false=>refine aP λz=>?_;obtain⟨u,b,e⟩:=au.1 ((dy _ sm).mem_iff.1 z);have:=(aQ.1 b).2;rw[e,h]at this;cases this
def qT(Q:Str->Bool)(p:aB)(t:Th):Bool:=Q t.n&&hwB p t
def afv(p:aB):ub T Q p=wQ ((T.filter (qT Q p)).map Th.n):=by
 unfold ub;rw[List.filter_filter];congr 3
 funext t
 exact Bool.and_comm _ _
def Ya{c a:FT}{ρ ρ1:bc}(b:c ρ=Z (δ,ρ1)):xI c a ρ=Z (δ,ρ1):=by unfold xI;rw[b]
def VA{W:List Wy}(g:ea T M dk W){m:Nat}(hm:m<64){RS:List Rs}(hj:∀v∈vL m++v9,v.f="two" -> ∃j,v.j=Z j){ws:aB}(hl:ws.length<=100):D2 [PD T M dk W m RS,.a3 ((wQ ((T.filter λt=>Q t.n).map Th.n)).map D.str),tp ws]=Z (Vw (vL m++v9) W (ub T Q) ws):=by
 let V:=vL m++v9;have lV:=BS m;have lT:=g.len;have l9:v9.length=9:=rfl;let P:Sl:=.I (PD T M dk W m RS);let B:Sl:=.I (.a3 ((wQ ((T.filter λt=>Q t.n).map Th.n)).map D.str));have lW:=g.w8;let c:Sl:=.I (.a7 (ws.map D.str));refine xV U ?_;have q0:cT (c2 (cb δ) ah (vQ vP)) [P,B,c,.un,.un,.un,.un,.un,.un,.un,.un,.un,.un]=Z (decide (ws=[]),[P,B,c,.un,.un,.un,.un,.un,.un,.un,.un,.un,.un]):=we (vw U U (LL δ ws));cases ws with
 |nil=>exact j2 q0 (wy (vy U U))
 |cons y r=>
  refine e4 q0 ?_;let p:Vb->Bool:=λv=>decide (y∈v.ws);have hx:∀{ρ:bc} {i:Nat},cV i ρ=Z (.a7 ((y::r).map D.str),ρ)->c2 b3 (cV i) av ρ=Z (.str y,ρ):=λh=>vw h U (yy (xs:=(y::r).map D.str) (j:=0) U);have e1:=xx (k:=1) (d3:=[2]) (g:=gN 0) (ft:=xG (cT (c2 (cb δ) (c2 b3 ag av) (c2 b3 aa av))) (cT (c2 (j0 δ) (c2 b3 ag av) (c2 b3 aa az)))) (fe:=cV 0) (s:=iL (cL (xt (c2 b3 aa cq) (cL (wx xU vP))))) (ρ:=[P,B,c,.un,.un,.un,.un,.un,.un,.un,.un,.un,.un]) (ρ1:=[P,B,c,.un,.un,.un,.un,.un,.un,.un,.un,.un,.un]) mu mu p V
   (Cj ((wj (xw (xs:=(vL m).map mu) (ys:=v9.map mu) U (wj (vt U Jo)) (by rw[ae,ae];omega))).t (by rw[<-aX]))) (by rw[aA];omega) λv _=>#v[[.I (mu v),c],[.I (mu v),c],U,?_,λ_=>#v[_,U,U],λ_=>U]
  .refine vC (vT (vy (wj e1) ?_));have hf:U' V y=(V.filter p).head?:=(qm ..).symm;refine X? (R:=λρ=>ρ=[P,B,c,.I (.a3 ((V.filter p).map mu)),.un,.un,.un,.un,.un,.un,.un,.un,.un]) U ?_;rintro _ rfl;cases hF:V.filter p with
   |nil=>
    rw[hF]at hf;refine j2 U (wy (vy (xu (vv U (vv (hx U) U)) (bG U)) ?_));show _=match U' V y with
     |none=>Jw y
     |some v=>ans W v (ub T Q) r
    rw[hf];rfl
   |cons v F=>
    rw[hF]at hf;show Ws _ _ (λe _=>e=match U' V y with
     |none=>Jw y
     |some v=>ans W v (ub T Q) r)
    rw[hf];have mv:v∈V:=(aQ.1 (hF▸ba:v∈V.filter p)).1;have hr:r.length<=100:=jY hl;obtain⟨k,k1,k2⟩:=Qh (v::F);refine e4 (we (vw U U (X8 k1 (by omega)))) ?_;let L:Sl:=.I (.a3 ((v::F).map mu));let S:Sl:=.I (.str v.n);let X:Sl:=.I (.a7 (v.o.map D.str));let Y:Sl:=.I (.str v.f);let A7:Sl:=.I (oS v.j);refine vC (Lu (vy (a:=mu v) (b:=[P,B,c,L,.un,.un,.un,.un,.un,.un,.un,.un,.un]) (vw U U (yy (xs:=(v::F).map mu) (j:=0) U)) #v[[P,B,c,L,S,X,Y,A7,.un,.un,.un,.un,.un],U,?_]));refine vC (vT (vy (vt (vv U (vv U (vv (Za U) U))) (afs v r hr (hj v mv))) ?_));show Ws _ _ (λe _=>e=ans W v (ub T Q) r);unfold ans;cases hp:XF v r with
    |none=>exact j2 U (wy (vy U U))
    |some ps=>
     simp only;by_cases f3:v.f="way"
     .obtain⟨w,rfl,rfl⟩:=Qg hp f3;rw[aj f3];let G:bc:=[P,B,c,L,S,X,Y,A7,.I (.a3 ([[w]].map tp)),.un,.un,.un,.un];have hw:∀{ρ:bc} {i:Nat},cV i ρ=Z (.a7 ([y,w].map D.str),ρ)->c2 b3 (cV i) az ρ=Z (.str w,ρ):=λh=>vw h U U;have e9:=xx (k:=1) (d3:=[2]) (g:=gN 0) (ft:=cT (c2 (cb δ) (c2 b3 aa az) (c2 b3 ag az))) (fe:=cV 0) (s:=iL (c2 b3 aa bw)) (ρ:=G) (ρ1:=G) l? l? (λx=>decide (x.w=w)) W U (by omega) λx _=>#v[[.I (l? x),c],[.I (l? x),c],U,we (vw U (hw U) (xk δ _ _)),λ_=>#v[_,U,U],λ_=>U];refine e4 U (j2 ((sq v.f "way" U).t (by rw[aS f3])) ?_);have q9:∀b,decide (wyF W w=[])=b->cT (c2 p' (cL (vE 1 [2] (iL (c2 b3 aa bw)) (gN 0) (cT (c2 (cb δ) (c2 b3 aa az) (c2 b3 ag az))) aa)) (cL (vO vP))) G=Z (b,G):=λb hb=>by refine we (vw (wj e9) U ?_);rw[<-hb];show p' (.a3 ((wyF W w).map l?)) (.a3 [])=_;cases wyF W w<;>rfl
      show Ws _ _ (λe _=>e=X7 W v w);unfold X7;by_cases z:wyF W w=[]
      .rw[aj z];exact j2 (q9 γ (aS z)) (wy (vy (xu (vv U (vv (hw U) U)) (bG U)) U))
      .rw[ak z];exact e4 (q9 δ (aP z)) (wy (vy (xu (vv U (vv (xu (vv U (vv (hw U) (vv U U))) (bG U)) U)) (bG U)) U))
     rw[ak f3];obtain⟨p2,pl⟩:=Vx hp;let E:Sl:=.I (.a3 (ps.map tp));let J:=λ(i:Nat) (ρ:bc)=>∃(acc:aB) (x z u:Sl),ρ=[P,B,c,L,S,X,Y,A7,E,.Y (acc.map D.str),x,z,u]/\acc.length<=i/\U? v (ub T Q) ps []=U? v (ub T Q) (ps.drop i) acc;refine e4 U (e4 ((sq v.f "way" U).t (by rw[aP f3])) (vC (z8 U (vC (BU (vy (a:=ps.map tp) (b:=[P,B,c,L,S,X,Y,A7,E,.Y [],.un,.un,.un]) U #v[J,#v[[],_,_,_,U,aI _,U],?_,?_]))))))
     .rintro i d _ hd ⟨acc,x,z,u,rfl,la,A⟩;rw[bg]at hd;obtain⟨q,hpi,rfl⟩:=dZ.1 hd;have hi:=(bY.1 hpi).1;have hq:q.length<=100:=bz (pl q (bV hpi)) hr;rw[Ny hpi,afv]at A;let G:List L4.D->Sl->bc:=λl s=>[P,B,c,L,S,X,Y,A7,E,.Y (acc.map D.str),.I (tp q),.Y l,s];refine#v[[P,B,c,L,S,X,Y,A7,E,.Y (acc.map D.str),.I (tp q),z,u],U,vC (z8 U (vC (BU (vy (a:=T.map k?) (b:=G [] u) U #v[λi ρ=>∃s:Sl,ρ=G ((((T.take i).filter (qT Q q)).map Th.n).map D.str) s,#v[_,U],?_,?_]))))]
      .rintro i d _ hd ⟨s,rfl⟩;rw[bg]at hd;obtain⟨t,ht,rfl⟩:=dZ.1 hd;have mt:t∈T:=bV ht;generalize hl:((T.take i).filter (qT Q q)).map Th.n=l;have ll:l.length<=13:=by rw[<-hl,ae];exact bz (cy _ _) (by rw[cv];omega)
       have ta:(((T.take (i+1)).filter (qT Q q)).map Th.n)=l++(if qT Q q t=γ then [t.n]else []):=by
        rw[gu,ht,mh,aX,hl];congr 1;show ([t].filter (qT Q q)).map Th.n=_;cases h:qT Q q t with
        |true=>rw[jK h];rfl
        |false=>rw[ly (by rw[h];decide)];rfl
       let ρ:=G (l.map D.str) (.I (k? t));have I:cT (c2 (j0 δ) (c2 b3 di av) ag) ρ=Z (Q t.n,ρ):=(we (vw (vw U U U) U (yX δ t.n _))).t (by rw[Vz mt];rfl);have c2':cT (c2 p' (cL (vE 1 [12] (iT dW) (gN 0) (cT (c2 (j0 γ) aa (c2 b3 ag az))) aa)) (cL (vO vP))) ρ=Z (hwB q t,ρ):=by have e:=xx (k:=1) (d3:=[12]) (g:=gN 0) (ft:=cT (c2 (j0 γ) aa (c2 b3 ag az))) (fe:=cV 0) (ρ:=ρ) (ρ1:=ρ) (s:=iT dW) D.str D.str (λx=>!decide (x∈t.w)) q U (by omega) λx _=>#v[[.I (.str x),.I (k? t)],[.I (.str x),.I (k? t)],U,we (vw U (vw U U U) (AO γ x t.w)),λ_=>#v[_,U,U],λ_=>U];exact we (vw (wj e) U ((Vy _).t (by rw[ac9])))
       have c3:xI (cT (c2 (j0 δ) (c2 b3 di av) ag)) (cT (c2 p' (cL (vE 1 [12] (iT dW) (gN 0) (cT (c2 (j0 γ) aa (c2 b3 ag az))) aa)) (cL (vO vP)))) ρ=Z (qT Q q t,ρ):=by
        unfold qT;cases h:Q t.n with
        |true=>rw[h]at I;exact BW I c2'
        |false=>rw[h]at I;exact Ya I
       refine#v[ρ,U,?_];cases h:qT Q q t with
       |true=>rw[h]at c3;exact s_y c3 (D5 (vy (za (es:=l.map D.str) U (d:=.str t.n) U U (by rw[ae];omega)) #v[_,by rw[ta,h,aj U,aX];rfl]))
       |false=>rw[h]at c3;exact s_n c3 (z8 U #v[_,by rw[ta,h,ak (by decide),cf]])
      .rintro _ ⟨s,rfl⟩;rw[ae,mI];have lq:((T.filter (qT Q q)).map Th.n).length<=13:=by rw[ae];exact bz (cy _ _) lT
       generalize (T.filter (qT Q q)).map Th.n=N at A lq ⊢
       match N,A,lq with
       |[],A,_=>exact j2 U (wy (vy (vw (x:=.a3 [Nx q,.a7 [.str "which", tp q,.a7 ((wQ []).map D.str)]]) U U U) (by rw[show wQ ([]:aB)=[] from hZ.1 (Jv [])]at A;exact A.symm)))
       |[b],A,_=>exact e4 U (D5 (vy (za (es:=acc.map D.str) U (d:=.str b) U U (by rw[ae];omega)) #v[acc++[b],_,_,_,by rw[aX];rfl,by rw[aA];exact j6 la,by rw[show wQ [b]=[b] from pH.1 (dy [b] sm)]at A;exact A]))
       |b::b'::l,A,lq=>
        obtain⟨N,hN⟩:∃N,b::b'::l=N:=#v[_,U];have h2:2<=N.length:=by rw[<-hN,aU,aU];omega
        rw[hN]at A lq ⊢;let ρ:=G (N.map D.str) s;let H:bc:=[P,B,c,L,S,X,Y,A7,E,.Y (acc.map D.str),.I (tp q),.I (.a3 (N.map D.str)),s];obtain⟨z1,z2,l',ez⟩:∃z1 z2 l',wQ N=z1::z2::l':=by
         have:=Jv N
         match h:wQ N,this with
         |[],z=>rw[dD]at z;omega
         |[_],z=>rw[cU]at z;omega
         |z1::z2::l',_=>exact#v[z1,z2,l',U]
        have k1:cb γ (dN N.length) (D.int 1)=Z (.X γ):=by rw[xW];show Z (D.X (!decide ((N.length:Int)=1)))=_;rw[aP (by omega)];rfl
        obtain⟨t1,t2⟩:=AH N;have k2:=J' t1 (by omega);rw[aP (by rw[<-hN];exact λz=>by cases z)]at k2;have e1:CC (nj 11) ρ=Z ((wQ N).map D.str,H):=by unfold CC;rw[show nj 11 ρ=Z (.a3 (N.map D.str),H) from U];simp only;rw[Ck];simp only;rw[aj (by omega)]
        have e2:cL (vO sE) ρ=Z (.a3 [Nx q,LM q (wQ N)],H):=wj (IG (vv (ρ1:=ρ) U (vv (ρ1:=H) (xu (vv (ρ1:=ρ) U (vv (ρ1:=ρ) U (vv (d:=tp (wQ N)) (ρ1:=H) (by show zp _ ρ=_;unfold zp;rw[wj e1];rfl) U))) (bG U)) U)) (bG U));rw[ez]at A;exact j2 (Pd (we (vw (Hy D.str U) U k1))) (wy (vy (vw e2 (N4 (wt (vw U U k2) U) U) U) (by rw[ez];exact A.symm)))
     .rintro _ ⟨acc,x,z,u,rfl,la,A⟩;rw[ae]at la A;rw[mG]at A;show Ws _ _ (λd _=>d=U? v (ub T Q) ps []);rw[A]
      match acc,la with
      |[],_=>exact wy (vy U U)
      |[b],_=>exact wy (vy U U)
      |[b,b'],_=>exact wy (vy U U)
      |_::_::_::l,la=>exact aq (bz la p2) (by simp)
  .have a1:cT (c2 (cb δ) (c2 b3 ag av) (c2 b3 aa av)) [.I (mu v),c]=Z (decide (y=v.n),[.I (mu v),c]):=we (vw (hx U) U (xk δ _ _));have a2:cT (c2 (j0 δ) (c2 b3 ag av) (c2 b3 aa az)) [.I (mu v),c]=Z (decide (y∈v.o),[.I (mu v),c]):=we (vw (hx U) U (AO δ _ _));by_cases z:y=v.n
   .rw[aS z]at a1;unfold xG;rw[a1];show _=Z (decide (y∈v.n::v.o),_);rw[aS (by rw[z];exact ba)]
   .rw[aP z]at a1;refine(yD a1 a2).t ?_;show _=Z (decide (y∈v.n::v.o),_);congr 2;exact decide_eq_decide.2 #v[a9 _,λh=>(aM.1 h).resolve_left z]
end
def arL:aB:=["", "the ", "", "a  ", "the a ", "", ""]
def tsL:aB:=["", "the", " a "]
def afw(h:a∈arL):Eb (cd a)/\Wd (cd a)=[]/\a.length<=6:=by have h:=aH.1 (show (arL.all λa=>(decide (cd a=[])||decide (cd a=(cd a).dropLast++[32]))&&(decide (Wd (cd a)=[])&&decide (a.length<=6)))=γ by kernel_rfl) a h;simp only[aW,ip,bK]at h;exact#v[h.1.imp_right λz=>#v[_,z],h.2.1,h.2.2]
def afx(h:a∈tsL):Wd (cd a)=[]/\a.length<=6:=by have h:=aH.1 (show (tsL.all λa=>decide (Wd (cd a)=[])&&decide (a.length<=6))=γ by kernel_rfl) a h;simp only[aW,bK]at h;exact h
def VB(h:k<=2):II (.str " ") (dN k)=Z (.str (fF " " (k:Int))):=by show (if _ then _ else _)=_;rw[aj #v[by omega,by omega,by decide +kernel]]
def m3(n:Nat):n % 3=0\/n % 3=1\/n % 3=2:=(by decide:∀k<3,k=0\/k=1\/k=2) _ (aK n (by decide))
def VC{ws:aB}(n:Nat)(W:ws.length<=14)(F:∀w∈ws,GW w):∃x,zB [.a3 (ws.map D.str),dN n]=Z (.str x)/\Wd (cd x)=ws.map cd/\x.length<=300:=by
 let z:Sl:=.I (.a3 (ws.map D.str));let N:Sl:=.I (dN n)
 suffices h:∃d,zB [.a3 (ws.map D.str),dN n]=Z d/\∃x,d=.str x/\Wd (cd x)=ws.map cd/\x.length<=300 by obtain⟨_,e,x,rfl,h⟩:=h;exact#v[x,e,h]
 have B:n % 3<=2:=by have:=aK n (show 0<3 by decide);omega
 obtain⟨A,T⟩:=Y9 (n % 3) B;refine Gb U (vC (vT (vy (vw U (vw U U (md (b:=3) (by decide))) (VB B)) (vC (BU (vy (Jp (Hy D.str U) (by omega)) #v[λi f=>∃(x:Str) (u y:Sl),f=[z,N,.I (.str x),u,y]/\Wd (cd x)=(ws.take i).map cd/\Eb (cd x)/\x.length<=2+20 * i,#v[_,_,_,U,?_,?_,by omega],?_,?_]))))))
 .rw[A];obtain h|h|h:=m3 n
  all_goals rw[h];rfl
 .rw[A];obtain h|h|h:=m3 n
  .rw[h];exact .inl U
  .rw[h];exact .inr #v[[],U]
  .rw[h];exact .inr #v[[32],U]
 .rintro i _ _ hd ⟨x,u,y,rfl,m,r,q3⟩;obtain⟨l,rfl⟩:=D6 hd;let a:=arL.getD (n / (5+3 * i) % 7) "";have P:a∈arL:=wL (aK _ (by decide));obtain⟨a1,E,S⟩:=afw P;let w:=ws.getD i "";have Q:w∈ws:=wL l;have q:=F w Q;have wl:=q.le;let k:=1+n / (7+5 * i) % 2;have G:=by show 1+n / (7+5 * i) % 2=1\/1+n / (7+5 * i) % 2=2;omega
  obtain⟨H,I⟩:=Y9 k (by omega);have C:∀(c e j:Nat),c<100->e<100->∀f:bc,cV 3 f=Z (dN i,f)->c2 wF (cC (dN c)) (c2 ym (cC (dN e)) ay) f=Z (dN (c+e * i),f):=λc e j X Y f h=>vw U (vw U h (yu (.inl (B3 (by omega) (by omega))))) U;refine#v[_,U,vC (vT (vy (vw U (vw (vw U (C 5 3 0 (by decide) (by decide) _ U) (dv (by omega) (by omega))) U (md (by decide))) (DA (L:=arL) (aK _ (by decide)))) (vT (vy (a:=.str (x++a++w++fF " " (k:Int))) (b:=[z,N,.I (.str x),.I (dN i),.I (.str a)]) ?_ ?_))))]
  .refine vw (vw (vw U U (Kk (b:=a) (by omega) (by omega))) (vw U U (DA l)) (Kk (by rw[yT,BV,aA,<- yT,<- yT];omega) (by show w.length<=20000;omega))) (vw U (vw U (vw (vw U (C 7 5 0 (by decide) (by decide) _ U) (dv (by omega) (by omega))) U (md (by decide))) U) (VB (k:=k) (by omega))) (Kk ?_ (by rw[I];omega));rw[yT,BV,BV,aA,aA,<- yT,<- yT,<- yT];show _+_+w.length<=20000;omega
  .have p:cd (x++a++w++fF " " (k:Int))=cd x++cd a++cd w++fw k 32:=by rw[BV,BV,BV,H]
   obtain⟨J,M⟩:=X3 r a1 E q.fr q.kp G;refine#v[_,_,_,U,?_,by rw[p];exact M,?_]
   .rw[p,J,m,gu,aX];rw[show ws[i]?=Z w by rw[aO l];show _=Z (ws.getD i "");rw[bQ,aO l];rfl];rfl
   .have o:=bE cP p;rw[aA,aA,aA,c7]at o;rw[<-yT,<- yT,<- yT,<- yT]at o;rw[o];omega
 .rintro _ ⟨x,u,y,rfl,m,r,q3⟩;rw[ae,bL]at m q3;let t:=tsL.getD (n / 3 % 3) "";obtain⟨R,t2⟩:=afx (a:=t) (wL (aK _ (by decide)));refine wy (vy (a:=.str (x++t)) (vw U (vw U (vw (vw U U (dv (by decide) (by decide))) U (md (by decide))) (DA (L:=tsL) (aK _ (by decide)))) (Kk (by omega) (by show t.length<=20000;omega))) #v[_,U,?_,?_])
  .rw[BV,Vn r,R,cf,m,mI]
  .rw[yT,BV,aA,<- yT,<- yT];omega
def fxL:aB:=["undo", "restart", "zzz", "taker", "in", "to", "with", "here", "it"]
def h4L:aB:=["take", "put", "drop", "go"]
def Rl:aB:=(v6++v9).flatMap Vb.ws++(fxL++(υ++pwA))
def afy(h:x∈Rl):GW x:=afo (aH.1 (show (Rl.all gwB)=γ by kernel_rfl) x h)
def pl_v(a:v∈vL m++v9)(b:y∈v.ws):y∈Rl:=bC _ (dB.2 #v[v,(aZ.1 a).elim (λh=>bC _ (D3 h)) (bx _),b])
def o9(a:v∈vL m++v9):v.o.length<=9:=bh (aH.1 (show ((v6++v9).all λv=>decide (v.o.length<=9))=γ by kernel_rfl) v ((aZ.1 a).elim (λh=>bC _ (D3 h)) (bx _)))
def cut_str(l:aB)(a b:Option Int):∃c:aB,fb (l.map D.str) a b=c.map D.str/\c.length<=l.length/\∀x∈c,x∈l:=#v[(l.drop _).take _,by unfold fb;rw[fU,fT],bz (lL ..) (by rw[c8];exact sy ..),λx h=>lK (ph h)]
def Zd(h:e b=Z (tp l,a)):cL (zf e) b=Z (.a3 (l.map D.str),a):=wj (by unfold zf;rw[h];rfl)
def Ze(h:e ρ=Z (.a3 d,c)):Xn e a b ρ=Z (fb d a b,c):=by unfold Xn;rw[h]
def NA{a b:aB}(h:e ρ=Z (.a3 (a.map D.str),c))(i:f c=Z (.a3 (b.map D.str),d))(j:a.length+b.length<=1000):xt e f ρ=Z ((a++b).map D.str,d):=(xw h i (by rw[ae,ae];exact j)).t (by rw[aX])
section
def Yc{a:bc}(h:cV 0 a=Z (PD T M b W m RS,a)):iL (cL (xt (c2 b3 aa cq) (cL (wx xU vP)))) a=Z ((vL m++v9).map mu,a):=by have lV:=BS m;have c:v9.length=9:=rfl;exact Cj ((wj (xw (vw h U U) (wj (vt U Jo)) (by rw[ae,ae];omega))).t (by rw[<-aX]))
def Yd(g:ea T M I W)(Y:∀t∈T,t.w.length<=3/\∀x∈t.w,x∈pwA):∃ws:aB,BC [PD T M I W m RS]=Z (.a3 (ws.map D.str))/\0<ws.length/\∀x∈ws,x∈Rl:=by
 have lV:=BS m;have lW:=g.w8;have lT:=g.len;let P:Sl:=.I (PD T M I W m RS);let V:=vL m++v9;have eV:(vL m++v9).length=(vL m).length+9:=aA;let J:=λ(b:Nat) (H:bc)=>∃(ws:aB) (F B C E u y z A a c l:Sl),H=[P,.Y (ws.map D.str),F,B,C,E,u,y,z,A,a,c,l]/\0<ws.length/\ws.length<=b/\∀x∈ws,x∈Rl
 suffices h:∃d,BC [PD T M I W m RS]=Z d/\∃ws:aB,d=.a3 (ws.map D.str)/\0<ws.length/\∀x∈ws,x∈Rl by obtain⟨_,e,ws,rfl,h⟩:=h;exact#v[ws,e,h]
 refine Gb U (vC (OA (vy U ?_)));refine Kj (J 200) (BU (vy (Yc U) #v[λi=>J (9+10 * i),#v[fxL,_,_,_,_,_,_,_,_,_,_,_,U,by decide,aI _,λx p=>bx _ (bC _ p)],?_,?_])) ?_
 .rintro i d _ hd ⟨ws,F,B,C,E,u,y,z,A,a,c,l,rfl,q,r,p⟩;rw[bg]at hd;obtain⟨v,G,rfl⟩:=dZ.1 hd;have N:=(bY.1 G).1;have G:=bV G;have ho:=o9 G;let R:=λs:Sl=>[P,s,.I (.str v.n),.I (tp v.o),.I (.str v.f),.I (oS v.j),u,y,z,A,a,c,l];have a1:cL (xt (nj 1) (cL (vO ck))) (R (.Y (ws.map D.str)))=Z (.a3 ((ws++[v.n]).map D.str),R (.I (.a3 (ws.map D.str)))):=wj (NA U U (by show ws.length+1<=1000;omega));refine#v[R (.Y (ws.map D.str)),U,OA (vy (NA a1 (Zd U) (by rw[aA];show ws.length+1+_<=1000;omega)) #v[ws++[v.n]++v.o,_,_,_,_,_,_,_,_,_,_,_,U,?_,?_,λx h=>?_])]
  .rw[aA,aA];omega
  .rw[aA,aA];show ws.length+1+_<=_;omega
  .rw[b9]at h;exact(aZ.1 h).elim (p x) λh=>pl_v G h
 .rintro H ⟨ws,F,B,C,E,u,y,z,A,a,c,l,e,q,r,p⟩;exact#v[ws,_,_,_,_,_,_,_,_,_,_,_,e,q,by rw[ae]at r;omega,p]
 rintro _ ⟨ws,F,B,C,E,u,y,z,A,a,c,l,rfl,q,r,p⟩;refine Kj (J 300) (BU (vy U #v[λi=>J (200+i),#v[ws,_,_,_,_,_,_,_,_,_,_,_,U,q,r,p],?_,?_])) ?_
 .rintro i d _ hd ⟨ws,F,B,C,E,u,y,z,A,a,c,l,rfl,q,r,p⟩;rw[bg]at hd;obtain⟨w,S,rfl⟩:=dZ.1 hd;have N:=(bY.1 S).1;refine#v[_,U,D5 (vy (za U U U (by rw[ae];omega)) #v[ws++[w.w],_,_,_,_,_,_,_,_,_,_,_,by rw[aX];rfl,?_,?_,snoc p ?_])]
  .rw[aA];omega
  .rw[aA];show ws.length+1<=_;omega
  .exact bx _ (bx _ (bC _ (g.wo w (bV S)).hw))
 .rintro H ⟨ws,F,B,C,E,u,y,z,A,a,c,l,e,q,r,p⟩;exact#v[ws,_,_,_,_,_,_,_,_,_,_,_,e,q,by rw[ae]at r;omega,p]
 clear q r p;rintro _ ⟨ws,F,B,C,E,u,y,z,A,a,c,l,rfl,q,r,p⟩;refine Kj (J 400) (BU (vy U #v[λi=>J (300+3 * i),#v[ws,_,_,_,_,_,_,_,_,_,_,_,U,q,r,p],?_,?_])) ?_
 .rintro i d _ hd ⟨ws,F,B,C,E,u,y,z,A,a,c,l,rfl,q,r,p⟩;rw[bg]at hd;obtain⟨t,Q,rfl⟩:=dZ.1 hd;have N:=(bY.1 Q).1;obtain⟨t1,X⟩:=Y t (bV Q);let R:=λs:Sl=>[P,s,.I (.str t.n),B,C,E,u,y,z,A,.I (tp t.w),.I (.str t.k.s),.I (oS t.s)];refine#v[R (.Y (ws.map D.str)),U,OA (vy (NA U (Zd U) (by omega)) #v[ws++t.w,_,_,_,_,_,_,_,_,_,_,_,U,?_,?_,λx h=>(aZ.1 h).elim (p x) λh=>?_])]
  .rw[aA];omega
  .rw[aA];omega
  .exact bx _ (bx _ (bx _ (X x h)))
 .rintro H ⟨ws,F,B,C,E,u,y,z,A,a,c,l,e,q,r,p⟩;exact#v[ws,_,_,_,_,_,_,_,_,_,_,_,e,q,by rw[ae]at r;omega,p]
 clear q r p;rintro _ ⟨ws,F,B,C,E,u,y,z,A,a,c,l,rfl,q,r,p⟩;exact OB (vy U #v[ws,U,q,p])
end
section
theorem VE(g:ea T M p W)(tw:∀t∈T,t.w.length<=3/\∀x∈t.w,x∈pwA)(c:Int):∃(ws:aB) (n:Nat),Aw [PD T M p W m RS,.int c]=Z (.a7 [.a3 (ws.map D.str),dN n])/\ws.length<=14/\∀x∈ws,x∈Rl:=by
 have lV:=BS m;obtain⟨l,hl,Q⟩:=Jm c 11 (by decide);obtain⟨F,eF,lF,iF⟩:=Yd g tw;let P:Sl:=.I (PD T M p W m RS);let C:Sl:=.I (.int c);let z:Sl:=.I (dl l);let o:Sl:=.I (.a3 (F.map D.str))
 suffices h:∃d,Aw [PD T M p W m RS,.int c]=Z d/\∃(ws:aB) (n:Nat),d=.a7 [.a3 (ws.map D.str),dN n]/\ws.length<=14/\∀x∈ws,x∈Rl by obtain⟨_,e,ws,n,rfl,h⟩:=h;exact#v[ws,n,e,h]
 refine Gb U (vC (vT (vy (wj (vt U Q)) (vC (vT (vy (vt U eF) ?_))))));let H:=h4L++(vL m).map Vb.n;have lH:0<H.length:=by show 0<(h4L++_).length;rw[aA];show 0<4+_;omega
 have iH:∀x∈H,x∈Rl:=λx j=>by
  rcases aZ.1 j with h|h
  .exact bh (aH.1 (show (h4L.all λx=>decide (x∈Rl))=γ by kernel_rfl) x h)
  .obtain⟨v,hv,rfl⟩:=au.1 h;exact pl_v (bC _ hv) ba
 let G:Sl:=.I (.a3 (H.map D.str));have N:=xq (k:=1) (d3:=[]) (g:=gN 0) (fe:=c2 b3 aa av) (s:=iL (c2 b3 aa cq)) (ρ:=[P,C,z,o,.un,.un]) mu (λv=>.str v.n) (vL m) U (by omega) λv _=>#v[[.I (mu v)],[.I (mu v)],U,U,U];refine vC (vT (vy (wj (NA (a:=h4L) U ((wj N).t (by rw[aY];rfl)) (by rw[ae];show 4+_<=1000;omega))) ?_));let k:=gd l 0 % 8;let J:=(l.drop 1).take k;let f:=λn=>F.getD (n % F.length) "";let R:=λs:Sl=>[P,C,z,o,G,s];have A:∀{s},c2 b3 ah av (R s)=Z (dN (gd l 0),R s):=vw U U (zD (i:=0) (by omega));have r:iL (cL (Dy ah (o3 az) (o3 (c2 wF az (c2 vZ (c2 b3 ah av) dS))))) (R .un)=Z (J.map dN,R .un):=by have a:c2 wF az (c2 vZ (c2 b3 ah av) dS) (R .un)=Z (dN (1+k),R .un):=vw U (vw A U (md (by decide))) U;refine Cj (wj ?_);have b:=ac4 (e:=cV 2) (lo:=o3 az) (l:=Z ((1:Nat):Int)) (ρ:=R .un) U U (Nv a);rw[b,UW dN (by omega) (by omega),show 1+k - 1=k by omega]
 have u:=xq (k:=1) (d3:=[3]) (g:=gN 0) (fe:=c2 b3 ag (c2 vZ aa (c1 w5 ag))) dN (λn=>.str (f n)) J r (by show ((l.drop 1).take k).length<=1000;rw[cv];omega) λn _=>#v[[.I (dN n),o],[.I (dN n),o],U,vw U (vw U (Hy D.str U) (md lF)) (DA (aK _ lF)),U];have lJ:J.length<=7:=by show ((l.drop 1).take k).length<=7;rw[cv];omega
 have iJ:∀x∈J.map f,x∈Rl:=λx j=>by obtain⟨n,_,rfl⟩:=au.1 j;exact iF _ (wL (aK _ lF))
 refine vC (vT (vy ((wj u).t (by rw[show (J.map λn=>D.str (f n))=(J.map f).map D.str by rw[aY];rfl])) ?_));let X:Sl:=.I (.a3 ((J.map f).map D.str));refine X? U ?_;rintro _ rfl;have q:cT (c2 DG (c2 vZ (c2 wY (c2 b3 ah av) dS) bw) av) (R X)=Z (decide (((gd l 0 / 8 % 3:Nat):Int) > 0),R X):=we (vw (vw (vw A U (dv (by decide) (by decide))) U (md (by decide))) U U);have fin:∀{ws:aB} {s:Sl},s=.I (.a3 (ws.map D.str))->ws.length<=14->(∀x∈ws,x∈Rl)->Ws (vA (vQ sY) (R s)) (λ_=>False) λd _=>∃(ws:aB) (n:Nat),d=.a7 [.a3 (ws.map D.str),dN n]/\ws.length<=14/\∀x∈ws,x∈Rl:=λ{ws s} e r u=>by subst e;exact wy (vy (xu (vv U (vv (vw U U (zD (i:=10) (by omega))) U)) (bG U)) #v[ws,gd l 10,U,r,u])
 cases B:decide (((gd l 0 / 8 % 3:Nat):Int) > 0)with
 |false=>rw[B]at q;exact e4 q (fin U (by rw[ae];omega) iJ)
 |true=>
  rw[B]at q;obtain⟨E,I,l6,i6⟩:=cut_str (J.map f) O (Z 6);rw[ae]at l6;let y:=H.getD (gd l 9 % H.length) "";have S:c2 b3 aG (c2 vZ (c2 b3 ah jy) (c1 w5 aG)) (R X)=Z (.str y,R X):=Ly D.str "" lH U (vw U U (zD (i:=9) (by omega)));refine j2 q (vT (vy (b:=R X) (wj (NA (wj (IG (vv S U) (bG U))) (wj ((Ze U).t (by rw[<-I]))) (by show 1+_<=1000;omega))) (fin (ws:=[y]++E) U ?_ λx j=>?_)))
  .show E.length+1<=14;omega
  .rcases aM.1 j with rfl|j
   .exact iH _ (wL (aK _ lH))
   .exact iJ x (i6 x j)
end
def Sf(d:L4.D):Prop:=(∃x,iE d=Z x/\fc x<=9/\O1 x x=γ)/\∀neg,Gu neg d d=O
def Sf.eq(h:Sf d)(neg:Bool):cb neg d d=Z (.X (!neg)):=by obtain⟨⟨x,a,e,c⟩,b⟩:=h;unfold cb;rw[b];show IB neg _ _=_;unfold IB;rw[a];simp only;rw[aj (by simp only[aW,bK];exact#v[#v[c,by omega],by omega]),L3.DC];cases neg<;>rfl
def yW(b:iE d=Z e)(c:xX a=Z l):xX (d::a)=Z (e::l):=by unfold xX;rw[b,c]
def Jx(h:xX a=Z l)(hd:xf l<=8):Sf (.a7 a):=#v[#v[.a7 l,by unfold iE;rw[h],by rw[fc];omega,U],λt=>U]
def ada(p:aB):Sf (Nx p):=by obtain⟨a,b⟩:=Eh p;exact Jx (yW U (yW a U)) (by simp only[xf,b];decide)
def Ye(p l:aB):Sf (LM p l):=by obtain⟨a,b⟩:=Eh p;obtain⟨c,d⟩:=Eh l;exact Jx (yW U (yW a (yW c U))) (by simp only[xf,b,d];decide)
def Qi(c x:Str):Sf (.a7 [.str c,.str x]):=Jx (l:=[.str c,.str x]) U (by simp[xf,fc])
def LO(n:Str)(x y:Option Str):Sf (.a7 [.str "command", .a7 [.str n,oS x,oS y]]):=by
 have o:∀z:Option Str,∃d,iE (oS z)=Z d/\fc d=0:=λz=>by cases z with
  |none=>exact#v[_,U,by unfold fc;rfl]
  |some z=>exact#v[_,U,by unfold fc;rfl]
 obtain⟨a,a1,c⟩:=o x;obtain⟨b,e,f⟩:=o y;refine Jx (l:=[.str "command", .a7 [.str n,a,b]]) (yW U (yW ?_ U)) (by simp[xf,fc,c,f]);unfold iE;rw[yW U (yW a1 (yW e U))]
def afA(v:Vb)(acc:aB):Sf (cmdT v acc):=match acc with
 |[]=>LO v.n O O
 |[a]=>LO v.n (Z a) O
 |a::b::l=>LO v.n (Z a) (Z b)
theorem Zf(v:Vb)(f:aB->aB):∀(a:List aB) (acc:aB),Sf (U? v f a acc)
 |[],acc=>afA v acc
 |p::a,acc=>by
  unfold U?;split
  .exact ada p
  .exact Zf v f a _
  .exact Ye p _
def afB(V:List Vb)(W:List Wy)(f:aB->aB)(ws:aB):Sf (Vw V W f ws):=by
 unfold Vw;split
 .exact Qi _ _
 .split
  .exact Qi _ _
  .unfold ans;split
   .exact Qi _ _
   .split
    .unfold X7;split
     .exact Qi _ _
     .exact LO _ (Z _) O
    .exact Zf _ _ _ _
def adb(h:xX a=Z l)(hd:xf l<=8):Sf (.a3 a):=#v[#v[.a3 l,by unfold iE;rw[h],by rw[fc];omega,U],λt=>U]
def Yf(a:Str->Str)(k:Str->Int)(P:List Ky):Sf (sP P (va a k)):=by
 have h:∀P:List Ky,∃l,xX (P.map λq=>D.a7 [kD q,va a k q])=Z l/\xf l<=2:=λP=>by
  induction P with
  |nil=>exact#v[[],U,by decide]
  |cons q P i=>
   obtain⟨l,b,c⟩:=i;obtain⟨e,d,f⟩:∃e,iE (va a k q)=Z e/\fc e=0:=by
    unfold va;split
    .exact#v[_,U,by unfold fc;rfl]
    .exact#v[_,U,by unfold fc;rfl]
   refine#v[.a7 [.a7 [.str q.1,.str q.2],e]::l,yW ?_ b,?_]
   .unfold iE;rw[yW U (yW d U)]
   .unfold xf;exact nM.2 #v[by simp[xf,fc,f],c]
 obtain⟨l,b,c⟩:=h P;exact Jx b (by omega)
def LP(l:List Int)(a b:Option Int):∃c:List Int,fb (l.map D.int) a b=c.map D.int/\c.length<=l.length:=#v[(l.drop _).take _,by unfold fb;rw[fU,fT],bz (lL ..) (by rw[c8];exact sy ..)]
structure Se(T:List Th)(M:List Mk)(dk:aB)(W:List Wy)(w:L4.D)(p:L4.D×aB):Prop where
 ex:∃P a k,∃Q:Str->Bool,p=(sP P (va a k),wQ ((T.filter λt=>Q t.n).map Th.n))/\sh T M dk W P a
 sn:A9 [w,p.1]=Z (p.2.map D.str)
def seL(p:L4.D×aB):L4.D:=.a3 (p.2.map D.str)
def Sd(d:L4.D):Prop:=∃T M a W m RS c b e p2,d=.a7 [PD T M a W m RS,wO T M a W (vL m) (RS.map Z?) c,.a3 ([b,e,p2].map cp),.a3 ([b,e,p2].map seL)]/\ea T M a W/\m<64/\(∀t∈T,t.w.length<=3/\∀x∈t.w,x∈pwA)/\(∀p∈[b,e,p2],Se T M a W (wO T M a W (vL m) (RS.map Z?) c) p)/\xT [wO T M a W (vL m) (RS.map Z?) c]=Z b.1
def ade{e:FE}(f:e m=Z (.nq d,a))(h:lo a=Z (l,b))(i:j b=Z (u,c)):Dy e lo j m=Z (fb d l u,c):=by unfold Dy;rw[f];simp only[h,i]
def Kt(p:L4.D×aB):iE (seL p)=Z (.a3 (p.2.map L3.Dq.str))/\fc (.a3 (p.2.map L3.Dq.str))=1:=by obtain⟨a,b⟩:=AH p.2;exact#v[by unfold seL iE;rw[a],by rw[fc,b]]
def Qj{L:List (L4.D×aB)}(h:∀p∈L,A9 [w,p.1]=Z (p.2.map D.str))(a:L.length<=1000){r:bc}:cL (vE 1 [4] (iL bf) (gN 0) wH (cL (wx A9 du))) (c::d::e::f::.I w::i::.I (.a3 (L.map cp))::r)=Z (.a3 (L.map seL),c::d::e::f::.I w::i::.I (.a3 (L.map cp))::r):=
 wj (xq cp seL L U a λp b=>#v[[.I p.1,.I w],[.I p.1,.I w],U,wj (vt U (h p b)),U])
def adf(ns:List Int)(hl:ns.length<=63):YL [.nq (ns.map D.int)]=Z (.X γ):=by
 let A:Sl:=.I (.nq (ns.map D.int));let J:=λ(i:Nat) (ρ:bc)=>∃(o:List L4.D) (s2 s3 s4 u Y:Sl),ρ=[A,.Y o,s2,s3,s4,u,Y,.un,.un,.un,.un,.un,.un,.un]/\o.length=i/\∀d∈o,Sd d;refine xV U ?_;unfold PB;refine vC (OA (vy (a:=[]) (b:=[A,.un,.un,.un,.un,.un,.un,.un,.un,.un,.un,.un,.un,.un]) U ?_));refine Kj (J 2) (BU (vy (Jp (m:=2) U (by decide)) #v[J,#v[[],_,_,_,_,_,U,U,nofun],?_,λρ h=>h])) ?_
 .rintro k _ _ hd ⟨o,s2,s3,s4,u,Y,rfl,hn,hs⟩;obtain⟨hk,rfl⟩:=D6 hd;obtain⟨l,cl,_⟩:=LP ns (Z ((2 * k:Nat):Int)) (Z ((2 * k+2:Nat):Int));obtain⟨T,M,dk,W,m,RS,g,tw,_,_,_,_,hm,r4,ok,eP⟩:=UZ (P3 l (.inr U));obtain⟨ks,dss,eW,hg⟩:=RB g hm r4 ok;let c:L4.D:=.i0 ks (dss.map .a3);let R:=RS.map Z?;let w:=wO T M dk W (vL m) R c;have hR:∀r∈R,RuS T M (vL m) r:=λr hr=>by obtain⟨q,h,rfl⟩:=au.1 hr;exact afm (ok q h)
  obtain⟨P0,k0,pP,_,_,_,e0⟩:=Ng (V:=vL m) (R:=R) (c:=c) g;obtain⟨P1,a1,k1,t1,e1⟩:=Kr g hm hR hg ns (4+k) 3 (by omega);obtain⟨P2,a2,k2,t2,e2⟩:=Kr g hm hR hg ns (7+k) 5 (by omega);have t0:sh T M dk W P0 (at0 T):=#v[g,pP,inv0 g];obtain⟨Q0,q0⟩:=LN (V:=vL m) (R:=R) (c:=c) (m:=k0) t0;obtain⟨Q1,q1⟩:=LN (V:=vL m) (R:=R) (c:=c) (m:=k1) t1;obtain⟨Q2,q2⟩:=LN (V:=vL m) (R:=R) (c:=c) (m:=k2) t2;let B:L4.D×aB:=(sP P0 (va (at0 T) k0),wQ ((T.filter λt=>Q0 t.n).map Th.n));let p1:L4.D×aB:=(sP P1 (va a1 k1),wQ ((T.filter λt=>Q1 t.n).map Th.n));let p2:L4.D×aB:=(sP P2 (va a2 k2),wQ ((T.filter λt=>Q2 t.n).map Th.n));have hp:∀p∈[B,p1,p2],Se T M dk W w p:=λp h=>by
   simp only[aM,cg,or_false]at h;rcases h with rfl|rfl|rfl
   .exact#v[#v[_,_,_,_,U,t0],q0]
   .exact#v[#v[_,_,_,_,U,t1],q1]
   .exact#v[#v[_,_,_,_,U,t2],q2]
  let Dd:bc:=[.un,.un,.un,.un,.un,.un,.un];let K:Sl:=.I (dN k);let Pa:Sl:=.I (PD T M dk W m RS);let Wo:Sl:=.I w;let S:Sl:=.I (.a3 ([B,p1,p2].map cp));have ex:∀s:bc,cL (Dy aa (o3 (c2 ym bI ah)) (o3 (c2 wF (c2 ym bI ah) bI))) (A::.Y o::K::s)=Z (.a3 (l.map D.int),A::.Y o::K::s):=λs=>by have m2:c2 ym bI ah (A::.Y o::K::s)=Z (dN (2 * k),A::.Y o::K::s):=vw (x:=dN 2) (y:=dN k) U U (yu (.inl (B3 (by omega) (by omega))));exact(wj (ade U (Nv m2) (Nv (vw m2 (y:=dN 2) U (z:=dN (2 * k+2)) U)))).t (by rw[<-cl])
  refine#v[A::.Y o::K::s3::s4::u::Y::Dd,U,vC (vT (vy (vt (vv (ex _) U) eP) (vC (vT (vy (vt U eW) (vC (vT (vy (vt U e0) ?_))))))))];refine X? (R:=λρ=>ρ=A::.Y o::K::Pa::Wo::.I B.1::Y::Dd) U ?_;rintro _ rfl;have ad:∀i:Nat,c2 wF (cC (dN i)) ah (A::.Y o::K::Pa::Wo::.I B.1::Y::Dd)=Z (dN (i+k),A::.Y o::K::Pa::Wo::.I B.1::Y::Dd):=λi=>vw U U U;refine vC (vT (vy (a:=.a3 ([B,p1,p2].map cp)) (wj (IG (vv U (vv (vt (vv U (vv U (vv (ad 4) U))) e1) (vv (vt (vv U (vv U (vv (ad 7) U))) e2) U))) (bG U))) ?_));refine D5 (vy (za (es:=o) U (xu (vv U (vv U (vv U (vv (Qj (λp h=>(hp p h).sn) (bG U)) U)))) (bG U)) U (by omega)) #v[_,_,_,_,_,_,U,?_,snoc hs #v[T,M,dk,W,m,RS,c,B,p1,p2,U,g,hm,tw,hp,e0]]);rw[aA,hn];rfl
 rintro _ ⟨o,s2,s3,s4,u,Y,rfl,hn,hs⟩;obtain⟨l1,cc1,n1⟩:=LP ns (Z 4) (Z 44);obtain⟨l2,cc2,n2⟩:=LP (l1++[1,2,3]) O (Z 40);rw[aA]at n2;have n2:l2.length<=100:=bz n2 (by show _+3<=100;omega);let C:Sl:=.I (.a3 (l2.map D.int));have src:cL (Xn (cL (xt (cL (Xn aa (Z 4) (Z 44))) (cL (vO n6)))) O (Z 40)) [A,.Y o,s2,s3,s4,u,Y,.un,.un,.un,.un,.un,.un,.un]=Z (.a3 (l2.map D.int),[A,.Y o,s2,s3,s4,u,Y,.un,.un,.un,.un,.un,.un,.un]):=by
  have a:cL (Xn aa (Z 4) (Z 44)) [A,.Y o,s2,s3,s4,u,Y,.un,.un,.un,.un,.un,.un,.un]=Z (.a3 (l1.map D.int),[A,.Y o,s2,s3,s4,u,Y,.un,.un,.un,.un,.un,.un,.un]):=by rw[<-cc1];rfl
  have b:=wj (xw (e':=cL (vO n6)) (ys:=[1,2,3].map D.int) a U (by rw[ae];show _+3<=1000;omega));rw[<-aX]at b;exact wj ((Ze b).t (by rw[<-cc2]))
 refine vC (vT (vy src ?_));let H:=λ(_:Nat) (ρ:bc)=>∃(s1 s2 s3 s4 u Y s8 s9 s10 s11 E N:Sl),ρ=[A,s1,s2,s3,s4,u,Y,C,s8,s9,s10,s11,E,N]/\nj 1 [A,s1]=Z (.a3 o,[A,.I (.a3 o)]);have fz:∀{s1:Sl},nj 1 [A,s1]=Z (.a3 o,[A,.I (.a3 o)])->∀r:bc,nj 1 (A::s1::r)=Z (.a3 o,A::.I (.a3 o)::r):=λ{s1} h r=>by cases s1<;>first|(cases h;rfl)|cases h
 refine Kj (H 0) (BU (vy (Jp (m:=l2.length) (Hy D.int U) n2) #v[H,#v[_,_,_,_,_,_,_,_,_,_,_,_,U,U],?_,λρ h=>h])) ?_
 .rintro k _ _ hd ⟨s1,s2,s3,s4,u,Y,s8,s9,s10,s11,E,N,rfl,h1⟩;obtain⟨hk,rfl⟩:=D6 hd;let K:Sl:=.I (dN k);let F:Sl:=.I (.a3 o);have k2:k % 2<o.length:=by rw[hn];exact aK _ (by decide)
  obtain⟨T,M,dk,W,m,RS,c,B,p1,p2,ed,g,hm,tw,hp,e0⟩:=hs _ (fj k2);let w:=wO T M dk W (vL m) (RS.map Z?) c;let Pa:Sl:=.I (PD T M dk W m RS);let Wo:Sl:=.I w;let S:Sl:=.I (.a3 ([B,p1,p2].map cp));let L:Sl:=.I (.a3 ([B,p1,p2].map seL));refine#v[[A,s1,K,s3,s4,u,Y,C,s8,s9,s10,s11,E,N],U,vC (Lu (vy (vw (fz h1 _) (vw (y:=dN 2) U U (md (b:=2) (by decide))) (yy (by rw[aO k2,ed]))) #v[[A,F,K,Pa,Wo,u,S,C,L,s9,s10,s11,E,N],U,?_]))];let j:=k / 2 % 3;have hj:j<[B,p1,p2].length:=aK _ (by decide);let I:Sl:=.I (dN j);refine vC (vT (vy (a:=dN j) (b:=[A,F,K,Pa,Wo,u,S,C,L,s9,s10,s11,E,N]) (vw (x:=dN (k / 2)) (vw (x:=dN k) U U (dv (b:=2) (by decide) (by decide))) U (md (b:=3) (by decide))) ?_));obtain⟨ws,n,eD,lw,iw⟩:=VE (m:=m) (RS:=RS) g tw l2[k];have ec:∀r:bc,c2 b3 bP ah (A::F::K::Pa::Wo::u::S::C::r)=Z (.int l2[k],A::F::K::Pa::Wo::u::S::C::r):=λr=>vw (x:=.a3 (l2.map D.int)) (y:=dN k) U U (yy (by rw[bg,aO hk];rfl));let A':Sl:=.I (.a3 (ws.map D.str));refine vC (Lu (vy (vt (vv U (vv (ec _) U)) eD) #v[[A,F,K,Pa,Wo,u,S,C,L,I,A',.I (dN n),E,N],U,?_]));obtain⟨x,eB,hx,lx⟩:=VC n lw λz hz=>afy (iw z hz);refine vC (vT (vy (vt U eB) ?_));obtain⟨p,ep,mp⟩:∃p,[B,p1,p2][j]?=Z p/\p∈[B,p1,p2]:=#v[_,aO hj,fj hj];have sp:=hp p mp;obtain⟨⟨P,a,q,Q,rfl,t⟩,sn⟩:=sp;have jn:∀v∈vL m++v9,v.f="two" -> ∃j,v.j=Z j:=λv hv h=>oK.1 (bh (aH.1 (show ((v6++v9).all λv=>decide (v.f="two" -> v.j.isSome=γ))=γ by kernel_rfl) v ((aZ.1 hv).elim (λh=>bC _ (D3 h)) (bx _))) h);have n0:U' (vL m++v9) "" = O:=bh (v64 (p:=λV=>decide (U' (V++v9) "" = O)) (by kernel_rfl) hm);have eR:=X9 (x:=x) t sn (M4 hm) n0 jn (by have:=g.w8;omega) (Nt (ws:=ws) (by omega) hx) (by omega);have eL:=VA (Q:=Q) g hm (RS:=RS) jn (ws:=ws) (by omega);have sf:=afB (vL m++v9) W (ub T Q) ws;generalize Vw (vL m++v9) W (ub T Q) ws=d at eR eL sf;let X:Sl:=.I (.str x);have x8:∀r:bc,c2 b3 bT dq (A::F::K::Pa::Wo::u::S::C::L::I::r)=Z (.a3 ((wQ ((T.filter λt=>Q t.n).map Th.n)).map D.str),A::F::K::Pa::Wo::u::S::C::L::I::r):=λr=>vw (x:=.a3 ([B,p1,p2].map seL)) (y:=dN j) U U (yy (by rw[bg,ep];rfl));have x6:∀r:bc,c2 b3 bf dq (A::F::K::Pa::Wo::u::S::C::L::I::r)=Z (sP P (va a q),A::F::K::Pa::Wo::u::S::C::L::I::r):=λr=>vw (x:=.a3 ([B,p1,p2].map cp)) (y:=dN j) U U (yy (by rw[bg,ep];rfl));refine vC (vT (vy (vt (vv U (vv (x8 _) (vv (d:=tp ws) U U))) eL) ?_));refine X? (R:=λρ=>ρ=[A,F,K,Pa,Wo,u,S,C,L,I,A',.I (dN n),X,.I d]) U ?_;rintro _ rfl;have e:cT (c2 (cb γ) (vx Ja n4) (cV 13)) [A,F,K,Pa,Wo,u,S,C,L,I,A',.I (dN n),X,.I d]=Z (γ&&δ,[A,F,K,Pa,Wo,u,S,C,L,I,A',.I (dN n),X,.I d]):=we (vw (vt (vv U (vv (x6 _) U)) eR) U (sf.eq γ));exact s_n (yD e e) (z8 U #v[_,_,_,_,_,_,_,_,_,_,_,_,U,U])
 rintro _ ⟨s1,s2,s3,s4,u,Y,s8,s9,s10,s11,E,N,rfl,h1⟩;let F:Sl:=.I (.a3 o);refine Kj (λ_=>True) (BU (vy (Cj (fz h1 _)) #v[λ_ ρ=>∃s3 s4 Y s8:Sl,ρ=[A,F,s2,s3,s4,u,Y,C,s8,s9,s10,s11,E,N],#v[_,_,_,_,U],?_,λ_ _=>trivial])) λρ _=>wy (vy U U);rintro i d _ hd ⟨s3,s4,Y,s8,rfl⟩;obtain⟨T,M,dk,W,m,RS,c,B,p1,p2,rfl,g,hm,tw,hp,e0⟩:=hs d (bV hd);let G:bc:=[A,F,s2,.I (PD T M dk W m RS),.I (wO T M dk W (vL m) (RS.map Z?) c),u,.I (.a3 ([B,p1,p2].map cp)),C,.I (.a3 ([B,p1,p2].map seL)),s9,s10,s11,E,N];have q1:Sf (.a3 ([B,p1,p2].map seL)):=adb (yW (Kt B).1 (yW (Kt p1).1 (yW (Kt p2).1 U))) (by simp only[xf,(Kt B).2,(Kt p1).2,(Kt p2).2];decide);have q2:Sf B.1:=by obtain⟨⟨P,a,k,Q,e,_⟩,_⟩:=hp B ba;rw[e];exact Yf a k P
 have b1:cT (c2 (cb γ) (cL (vE 1 [4] (iL bf) (gN 0) wH (cL (wx A9 du)))) bT) G=Z (δ,G):=we (vw (Qj (λp h=>(hp p h).sn) (bG U)) U (q1.eq γ));have b2:cT (c2 (cb γ) (vx xT cE) (c2 b3 bf av)) G=Z (δ,G):=we (vw (vt U e0) (vw U U U) (q2.eq γ));exact#v[G,U,s_n (yD b1 b2) (z8 U #v[_,_,_,_,U])]
end K44x
namespace K44x
open PySem L2 L3 L4
open PySem.W (nsIn)
structure Fx(K:aw)(C0 C1 C2 C3 C4 C5 C6 C7 C8 C9 C10 C11 C12 C13 C14 C15:Addr):Prop where
 a:Al (λx C=>nsIn K bN x=Z (Z (.ref C))) ["Thing", "Mark", "Verb", "At", "Has", "Seen", "Marked", "Kind", "Word", "Not", "Both", "Move", "Put", "Rule", "World", "Lit"] [C0,C1,C2,C3,C4,C5,C6,C7,C8,C9,C10,C11,C12,C13,C14,C15]
 k:Al (CF K) [C0,C1,C2,C3,C4,C5,C6,C7,C8,C9,C10,C11,C12,C13,C14,C15] [["kind", "name", "start", "words"],["most", "name", "start"],["form", "joining", "name", "others"],["place", "term"],["term"],["term"],["term", "value"],["kind", "term"],["word"],["inner"],["one", "other"],["place", "term"],["term", "value"],["deeds", "refuses", "tests", "text", "verb"],["copied_rules", "kept_dark", "kept_marks", "kept_things", "kept_verbs", "kept_ways", "mosts_by_name", "rules_by_verb", "shared_rules", "shared_verbs", "things_by_name", "verbs_by_word", "your_name", "kept_rules"],[]]
 i:Al (λC j=>K2 K [C0,C1,C2,C3,C4,C5,C6,C7,C8,C9,C10,C11,C12,C13,C14,C15] C j=γ) [C3,C10,C4,C7,C15,C1,C6,C11,C9,C12,C13,C5,C0,C2,C8] [3,10,4,7,15,1,6,11,9,12,13,5,0,2,8]
 n_Lit:cZ K (.ref C15) "__init__" = Z (Z (.builtin "object.__init__"))
 nd:decide ([C0,C1,C2,C3,C4,C5,C6,C7,C8,C9,C10,C11,C12,C13,C14,C15]:List Addr).Nodup=γ
 kn:kN K=γ
 e:((["all", "any", "bool", "int", "isinstance", "len", "list", "range", "set", "sorted", "str", "tuple"]:aB).all λx=>match nsIn K bN x with|some O=>γ|_=>δ)=γ
 g0:GX K "CANNOT_BE" "That cannot be."
 g1:GS K "FORMS" ["alone", "one", "two", "way"]
 g2:GS K "KINDS" ["room", "plain", "fixed", "box", "lamp", "you"]
 g3:GS K "KINDS_APART" ["room", "you"]
 g4:GS K "KINDS_THAT_HOLD" ["room", "box", "you"]
 g5:GS K "KINDS_WITH_MARK" ["box", "lamp"]
 g6:GC K "MOST_BESIDE" 7
 g7:GC K "MOST_BY_COMMAND" 3
 g8:GC K "MOST_DEEDS" 4
 g9:GC K "MOST_DEEP" 4
 g10:GC K "MOST_IN_NAME" 8
 g11:GC K "MOST_IN_WORD" 12
 g12:GC K "MOST_MARKS" 4
 g13:GC K "MOST_OF_MARK" 3
 g14:GC K "MOST_ROOMS" 5
 g15:GC K "MOST_RULES" 20
 g16:GC K "MOST_SIGNS" 60
 g17:GC K "MOST_TESTS" 5
 g18:GC K "MOST_VERBS" 6
 g19:GC K "MOST_WAYS" 10
 g20:GC K "MOST_WORDS" 4
 g21:GX K "NOTHING_COMES" "Nothing comes of it."
 g22:GS K "NO_NAMES" ["it", "other", "here", "the", "a", "undo", "restart"]
 g23:GS K "NO_WORDS" ["the", "a"]
 g24:GS K "NO_WORDS_OF_ROWS" ["the", "a", "undo", "restart"]
 q25:GJ K C0 "Thing.__init__" (a8 (top 84) 0) [V.U]
 q26:GM K C1 "__init__" "Mark.__init__" (a8 (top 85) 0)
 q27:GJ K C2 "Verb.__init__" (a8 (top 86) 0) [V.U,(V.str "one"),V.U]
 q28:GM K C3 "__init__" "At.__init__" (a8 (top 34) 0)
 q29:GM K C4 "__init__" "Has.__init__" (a8 (top 35) 0)
 q30:GM K C5 "__init__" "Seen.__init__" (a8 (top 36) 0)
 q31:GM K C6 "__init__" "Marked.__init__" (a8 (top 37) 0)
 q32:GM K C7 "__init__" "Kind.__init__" (a8 (top 38) 0)
 q33:GM K C8 "__init__" "Word.__init__" (a8 (top 39) 0)
 q34:GM K C9 "__init__" "Not.__init__" (a8 (top 41) 0)
 q35:GM K C10 "__init__" "Both.__init__" (a8 (top 42) 0)
 q36:GM K C11 "__init__" "Move.__init__" (a8 (top 74) 0)
 q37:GM K C12 "__init__" "Put.__init__" (a8 (top 75) 0)
 q38:GJ K C13 "Rule.__init__" (a8 (top 93) 0) [(V.X δ)]
 q39:GM K C0 "can_hold" "Thing.can_hold" (a8 (top 84) 1)
 q40:GM K C0 "has_mark" "Thing.has_mark" (a8 (top 84) 2)
 q41:GM K C0 "is_plainly" "Thing.is_plainly" (a8 (top 84) 3)
 q42:GM K C14 "of_kind" "World.of_kind" (a8 (top 161) 3)
 q43:GM K C14 "all_verbs" "World.all_verbs" (a8 (top 161) 13)
 q44:GM K C14 "thing_of" "World.thing_of" (a8 (top 161) 2)
 q45:GM K C14 "most_of" "World.most_of" (a8 (top 161) 6)
 q46:GM K C14 "verb_of" "World.verb_of" (a8 (top 161) 14)
 q47:GM K C14 "you" "World.you" (a8 (top 161) 4)
 q48:GM K C14 "__init__" "World.__init__" (a8 (top 161) 0)
 q49:GM K C14 "is_dark" "World.is_dark" (a8 (top 161) 5)
 q50:GM K C14 "own_marks" "World.own_marks" (a8 (top 161) 7)
 q51:GM K C14 "names" "World.names" (a8 (top 161) 1)
 q52:GM K C14 "way_words" "World.way_words" (a8 (top 161) 12)
 q53:GM K C14 "rules_to_try" "World.rules_to_try" (a8 (top 161) 16)
 q54:GM K C14 "parts" "World.parts" (a8 (top 161) 18)
 q55:GM K C3 "holds" "At.holds" (a8 (top 34) 1)
 q56:GM K C4 "holds" "Has.holds" (a8 (top 35) 1)
 q57:GM K C5 "holds" "Seen.holds" (a8 (top 36) 1)
 q58:GM K C6 "holds" "Marked.holds" (a8 (top 37) 1)
 q59:GM K C7 "holds" "Kind.holds" (a8 (top 38) 1)
 q60:GM K C8 "holds" "Word.holds" (a8 (top 39) 1)
 q61:GM K C15 "holds" "Lit.holds" (a8 (top 40) 0)
 q62:GM K C9 "holds" "Not.holds" (a8 (top 41) 1)
 q63:GM K C10 "holds" "Both.holds" (a8 (top 42) 1)
 q64:GM K C11 "done" "Move.done" (a8 (top 74) 1)
 q65:GM K C12 "done" "Put.done" (a8 (top 75) 1)
 q0:Al (λx i=>GD K x (top i)) ["is_small_letters", "is_name", "is_word", "is_one_of", "is_whole", "is_list_up_to", "own_list", "refuse_unless", "count_of", "plain_ones", "is_mark", "check_things", "check_marks", "are_unlike", "check_names", "mark_names", "is_start", "comes_to_room", "check_starts", "are_words", "has_all", "is_told_apart", "check_words_of_things", "check_dark", "is_way", "check_ways", "is_verb", "check_verbs", "are_apart", "check_vocabulary", "check_parts", "does"] [6,7,8,10,11,12,94,123,126,127,129,125,128,131,130,132,134,135,133,137,139,138,136,140,142,141,144,143,146,145,124,150]
 q1:Al (λx i=>GD K x (top i)) ["refuses", "hand_rules", "put_rules", "lid_rules", "flame_rules", "way_tests", "go_rules", "wait_rules", "common_rules", "common_verbs", "by_name", "mosts_by_name", "verbs_by_word", "by_verb", "is_same_text", "copy_of", "is_by_command", "is_here", "named", "is_of_kind", "is_term", "is_place", "is_moved", "is_mark_value", "is_move", "is_said", "is_verb_name", "does_or_refuses", "is_plain_test", "is_test", "is_deed", "are_tests"] [151,152,153,154,155,157,156,158,149,148,162,163,164,165,9,95,106,107,108,109,110,111,112,113,105,98,97,99,103,102,104,100]
 q2:Al (λx i=>GD K x (top i)) ["are_deeds", "is_rule", "own_starts", "first_value", "first_stand", "value_of", "at_of", "mark_of", "with_part", "holders_of", "room_of", "has", "is_shut", "in_open", "burns_in", "is_lit", "is_seen", "seen", "is_of_way", "things_of", "meant", "at_parts", "mark_parts", "can_go", "can_show", "is_object", "fits_form", "is_command", "check_command", "fits", "outcome", "answered"] [101,96,16,17,15,18,19,20,21,23,24,27,26,25,29,28,30,31,43,44,45,46,47,76,77,60,59,58,57,63,64,62]
 q3:Al (λx i=>GD K x (top i)) ["step", "objects_of", "commands", "words_of", "phrases_about", "phrases_of", "has_words", "read_way", "read_things", "read", "_law_cell_at", "_law_draws", "_law_names", "_law_words", "_law_things", "_law_marks", "_law_all_marks", "_law_ways", "_law_verbs", "_law_common", "_law_test", "_law_deed", "_law_rules", "_law_parts", "_law_asked", "_law_done", "_law_rule", "_law_world", "_law_walked", "_law_blanked", "_law_phrases", "_law_read"] [61,56,55,13,68,67,71,69,70,66,167,168,169,170,171,172,173,174,175,176,177,178,179,180,181,182,183,184,185,187,188,189]
 q4:Al (λx i=>GD K x (top i)) ["_law_pool", "_law_drawn", "law"] [186,190,191]
class Yx(B:Bz):Prop where
 y:Yw B.P B.w B.mg B.a5 B.G
 z:B.G.hs=tupleKeyHash (v5 B.P B.w)
 f:Fx B.G.K (B.G.ca 0) (B.G.ca 1) (B.G.ca 2) (B.G.ca 3) (B.G.ca 4) (B.G.ca 5) (B.G.ca 6) (B.G.ca 7) (B.G.ca 8) (B.G.ca 9) (B.G.ca 10) (B.G.ca 11) (B.G.ca 12) (B.G.ca 13) (B.G.ca 14) (B.G.ca 15)
section
variable{B:Bz}[Y:Yx B]
instance:Yb B:=#v[Y.y]
instance:Hz B:=#v[Y.z,Y.f.kn]
set_option r "all 0;any 1;bool 2;int 3;isinstance 4;len 5;list 6;range 7;set 8;sorted 9;str 10;tuple 11" in instance:Nb B "ϑ0" := #v[Y.y.n Y.f.e ϑ1 U]
set_option r "CANNOT_BE Hk x 0;FORMS Pz s 1;KINDS FK s 2;KINDS_APART Ew s 3;KINDS_THAT_HOLD Bm s 4;KINDS_WITH_MARK Bn s 5;MOST_BESIDE Ex i 6;MOST_BY_COMMAND Bo i 7;MOST_DEEDS FM i 8;MOST_DEEP Hl i 9;MOST_IN_NAME DN i 10;MOST_IN_WORD DO i 11;MOST_MARKS CG i 12;MOST_OF_MARK DP i 13;MOST_ROOMS FP i 14;MOST_RULES FR i 15;MOST_SIGNS FN i 16;MOST_TESTS FL i 17;MOST_VERBS FQ i 18;MOST_WAYS Hm i 19;MOST_WORDS CH i 20;NOTHING_COMES Dr x 21;NO_NAMES IY s 22;NO_WORDS IZ s 23;NO_WORDS_OF_ROWS AV s 24" in instance:Co B "ϑ0" ϑ1:=#v[Y.y.cϑ2 Y.f.gϑ3]
set_option r "B6 copied_rules 14 0;B7 deeds 13 0;yp form 2 0;GK inner 9 0;yG joining 2 1;Eu kept_dark 14 1;AR kept_marks 14 2;xK kept_things 14 3;DM kept_verbs 14 4;BG kept_ways 14 5" in instance:Ff B ϑ0 "ϑ1" := #v[yM ((Y.f.k.at ϑ2 U U:).at ϑ3 U)]
instance:Ff B wz "kind" := #v[Vs (yM ((Y.f.k.at 0 U U:).at 0 U)) ((Y.f.k.at 7 U U:).at 0 U)]
set_option r "AS  1 0;Bk s_by_name 14 6" in instance:Ff B ϑ0 "mostϑ1" := #v[yM ((Y.f.k.at ϑ2 U U:).at ϑ3 U)]
instance:Ff B vY "name" := #v[Vs (Vs (yM ((Y.f.k.at 0 U U:).at 1 U)) ((Y.f.k.at 1 U U:).at 1 U)) ((Y.f.k.at 2 U U:).at 2 U)]
set_option r "Lh ne 10 0;GL ther 10 1;yH thers 2 3" in instance:Ff B ϑ0 "oϑ1" := #v[yM ((Y.f.k.at ϑ2 U U:).at ϑ3 U)]
instance:Ff B Ec "place" := #v[Vs (yM ((Y.f.k.at 3 U U:).at 0 U)) ((Y.f.k.at 11 U U:).at 0 U)]
set_option r "zY refuses 13 1;zt rules_by_verb 14 7;B8 shared_rules 14 8;B9 shared_verbs 14 9" in instance:Ff B ϑ0 "ϑ1" := #v[yM ((Y.f.k.at ϑ2 U U:).at ϑ3 U)]
instance:Ff B xi "start" := #v[Vs (yM ((Y.f.k.at 0 U U:).at 2 U)) ((Y.f.k.at 1 U U:).at 2 U)]
instance:Ff B Ca "term" := #v[Vs (Vs (Vs (Vs (Vs (Vs (yM ((Y.f.k.at 3 U U:).at 1 U)) ((Y.f.k.at 4 U U:).at 0 U)) ((Y.f.k.at 5 U U:).at 0 U)) ((Y.f.k.at 6 U U:).at 0 U)) ((Y.f.k.at 7 U U:).at 1 U)) ((Y.f.k.at 11 U U:).at 1 U)) ((Y.f.k.at 12 U U:).at 0 U)]
set_option r "Ed ests 13 2;FJ ext 13 3;AU hings_by_name 14 10" in instance:Ff B ϑ0 "tϑ1" := #v[yM ((Y.f.k.at ϑ2 U U:).at ϑ3 U)]
instance:Ff B Ee "value" := #v[Vs (yM ((Y.f.k.at 6 U U:).at 1 U)) ((Y.f.k.at 12 U U:).at 1 U)]
set_option r "zu verb 13 4;Bl verbs_by_word 14 11;IW word 8 0;xY words 0 3;BH your_name 14 12" in instance:Ff B ϑ0 "ϑ1" := #v[yM ((Y.f.k.at ϑ2 U U:).at ϑ3 U)]
instance:Af B 0 ["kind", "name", "start", "words"]:=#v[(Y.f.k.at 0 U U:)]
instance:Af B 1 ["most", "name", "start"]:=#v[(Y.f.k.at 1 U U:)]
instance:Af B 2 ["form", "joining", "name", "others"]:=#v[(Y.f.k.at 2 U U:)]
instance:Af B 3 ["place", "term"]:=#v[(Y.f.k.at 3 U U:)]
set_option r "4;5" in instance:Af B ϑ0 ["term"]:=#v[(Y.f.k.at ϑ0 U U:)]
set_option r "6 term value;7 kind term" in instance:Af B ϑ0 ["ϑ1", "ϑ2"]:=#v[(Y.f.k.at ϑ0 U U:)]
set_option r "8 word;9 inner" in instance:Af B ϑ0 ["ϑ1"]:=#v[(Y.f.k.at ϑ0 U U:)]
set_option r "10 one other;11 place term;12 term value" in instance:Af B ϑ0 ["ϑ1", "ϑ2"]:=#v[(Y.f.k.at ϑ0 U U:)]
instance:Af B 13 ["deeds", "refuses", "tests", "text", "verb"]:=#v[(Y.f.k.at 13 U U:)]
instance:Af B 14 ["copied_rules", "kept_dark", "kept_marks", "kept_things", "kept_verbs", "kept_ways", "mosts_by_name", "rules_by_verb", "shared_rules", "shared_verbs", "things_by_name", "verbs_by_word", "your_name", "kept_rules"]:=#v[(Y.f.k.at 14 U U:)]
def Bc:∀k,k<16->JF B.G.K (B.G.ca k):=T5.at (n:=16) #v[(Y.f.k.at 0 U U:).ci,(Y.f.k.at 1 U U:).ci,(Y.f.k.at 2 U U:).ci,(Y.f.k.at 3 U U:).ci,(Y.f.k.at 4 U U:).ci,(Y.f.k.at 5 U U:).ci,(Y.f.k.at 6 U U:).ci,(Y.f.k.at 7 U U:).ci,(Y.f.k.at 8 U U:).ci,(Y.f.k.at 9 U U:).ci,(Y.f.k.at 10 U U:).ci,(Y.f.k.at 11 U U:).ci,(Y.f.k.at 12 U U:).ci,(Y.f.k.at 13 U U:).ci,(Y.f.k.at 14 U U:).ci,(Y.f.k.at 15 U U:).ci,trivial]
set_option r "At t_At 3 0;Both Oo 10 1;Has YI 4 2;Kind Uh 7 3;Lit YJ 15 4;Mark Ui 1 5;Marked MW 6 6;Move Uj 11 7;Not Uk 9 8;Put YK 12 9;Rule Ul 13 10;Seen Um 5 11;Thing Py 0 12;Verb Uo 2 13;Word Up 8 14" in instance:Ic B "ϑ0" ϑ1:=#v[ϑ2,xh (Y.f.i.at ϑ3 U U:) U (DL 16 _) Bc,Y.y.g (Y.f.a.at ϑ2 U U:)]
instance:K0f B "Lit" 15:=#v[#v[(Y.f.k.at 15 U U:).mks,Y.f.n_Lit,(Y.f.k.at 15 U U:).kp],Y.y.g (Y.f.a.at 15 U U:)]
instance:Ij B 16:=#v[injR Y.f.nd]
theorem eqL{A:Type}{l:List A}{n:Nat}(h:l.length=n):l.length=n:=h
theorem eqE{e:PySem.Expr}{v:PySem.Env}{r:PySem.Sem PySem.Value}(h:PySem.eval e v=r):PySem.eval e v=r:=h
local macro_rules|`(tactic|trivial)=>do let x:=("zr_plI zr_iuI zr_insI aeE aer aeq aes aet MN aex abj abS aeu abh abX aa2 aa3 abT abV abP abl abK abo abY aa9 aba abb abc aa6 abW aey abZ aa7 ab1 ab3 abU acf abk abi abg aa1 zr_i2I abv abw aev ab5 abe abf abd aez aeA abA aa4 aa5 abB aa8 acb acd ace ab2 ab4 ab6 aew abm abn ab7 ab8 abC abp abq ack abG abH abI abJ ab9 aca Xp Xo Xq abL abM abN abu zr_r2I abx zr_xeI aby acz abz abF abE abD acw ab0 acu acr zr_wxI abr abt ach aci acj Xm acg".splitOn " ").toArray.map fun s=>Lean.mkIdent (.mkSimple s);`(tactic|repeat' first|(with_reducible intro _)|((with_reducible first|apply eqL|apply eqE);rfl)|kernel_rfl|((with_reducible first|apply abQ|apply abR);rotate_left 7;rfl)|(with_reducible first $[|apply $x]*)|exact qS)
set_option r "1 is_small_letters zb 0;2 is_name zg 1;2 is_word yO 2;1 is_one_of wK 3;1 is_whole AW 4;1 is_list_up_to wN 5;1 own_list EO 6" in instance:Df B ϑ0 "ϑ1" (eb B.G ϑ2):=eo U (Y.f.q0.at ϑ3 U U:) U (by trivial)
def ED:W? B (H? (a8 (top 84) 0)) "Thing.__init__" (a8 (top 84) 0) (wM (a8 (top 84) 0)) 0 CJ:=by
 unfold CJ;refine MN ?_ ?_
 all_goals trivial
instance:Kf B 1 "Thing" 0 An [D.U]:=gJ4 (dds:=[D.U]) (Y.f.k.at 0 U U:) (Y.f.a.at 0 U U:) U Y.f.q25 U U ED 0
instance:Kf B 1 "Thing" 0 An []:=gJ4 (dds:=[D.U]) (Y.f.k.at 0 U U:) (Y.f.a.at 0 U U:) U Y.f.q25 U U ED 1
instance:Kf B 1 "Mark" 1 Hn []:=V? (Y.f.k.at 1 U U:) (Y.f.a.at 1 U U:) U Y.f.q26 U U (by trivial)
def Dn:W? B (H? (a8 (top 86) 0)) "Verb.__init__" (a8 (top 86) 0) (wM (a8 (top 86) 0)) 0 DQ:=by
 unfold DQ;refine MN ?_ ?_
 all_goals trivial
instance:Kf B 1 "Verb" 2 yb [D.U,(D.str "one"),D.U]:=gJ4 (dds:=[D.U,(D.str "one"),D.U]) (Y.f.k.at 2 U U:) (Y.f.a.at 2 U U:) U Y.f.q27 U U Dn 0
instance:Kf B 1 "Verb" 2 yb [D.U]:=gJ4 (dds:=[D.U,(D.str "one"),D.U]) (Y.f.k.at 2 U U:) (Y.f.a.at 2 U U:) U Y.f.q27 U U Dn 2
instance:Kf B 1 "Verb" 2 yb []:=gJ4 (dds:=[D.U,(D.str "one"),D.U]) (Y.f.k.at 2 U U:) (Y.f.a.at 2 U U:) U Y.f.q27 U U Dn 3
set_option r "At 3 Ef 28;Has 4 CK 29;Seen 5 Ho 30;Marked 6 xA 31;Kind 7 yc 32;Word 8 DR 33;Not 9 yh 34;Both 10 Hr 35;Move 11 zh 36;Put 12 zK 37" in instance:Kf B 1 "ϑ0" ϑ1 ϑ2 []:=V? (Y.f.k.at ϑ1 U U:) (Y.f.a.at ϑ1 U U:) U Y.f.qϑ3 U U (by trivial)
def Gg:W? B (H? (a8 (top 93) 0)) "Rule.__init__" (a8 (top 93) 0) (wM (a8 (top 93) 0)) 1 DS:=by
 unfold DS;refine MN ?_ ?_
 all_goals trivial
instance:Kf B 2 "Rule" 13 yd [(D.X δ)]:=gJ4 (dds:=[(D.X δ)]) (Y.f.k.at 13 U U:) (Y.f.a.at 13 U U:) U Y.f.q38 U U Gg 0
instance:Kf B 2 "Rule" 13 yd []:=gJ4 (dds:=[(D.X δ)]) (Y.f.k.at 13 U U:) (Y.f.a.at 13 U U:) U Y.f.q38 U U Gg 1
set_option r "can_hold wZ 39;has_mark xZ 40;is_plainly wR 41" in instance:Mf B 9 "ϑ0" ϑ1:=#v[λc h e=>by
 unfold ϑ1 at e;split at e
 .cases e;exact n7 (k:=8) (Y.f.k.at 0 U U:) U Y.f.qϑ2 U (by trivial)
 .cases e]
set_option r "1 refuse_unless eb vK eo 7;1 count_of eb CL eo 8;10 plain_ones o? zv A? 9" in instance:Df B ϑ0 "ϑ1" (ϑ2 B.G ϑ3):=ϑ4 U (Y.f.q0.at ϑ5 U U:) U (by trivial)
set_option r "2 is_mark GO 10 GN;11 check_things AZ 11 AY;3 check_marks BJ 12 BI" in instance:Df B ϑ0 "ϑ1" (eb B.G ϑ2):=eo U (Y.f.q0.at ϑ3 U U:) U (by unfold ϑ4;trivial)
set_option r "1 are_unlike eb xQ eo 13;3 check_names eb BK eo 14;10 mark_names o? zw A? 15" in instance:Df B ϑ0 "ϑ1" (ϑ2 B.G ϑ3):=ϑ4 U (Y.f.q0.at ϑ5 U U:) U (by trivial)
instance:Df B 10 "is_start" (eb B.G ES):=eo U (Y.f.q0.at 16 U U:) U (by unfold ER;trivial)
instance:Df B 1 "comes_to_room" (eb B.G Ac):=eo U (Y.f.q0.at 17 U U:) U (by trivial)
instance:Df B 11 "check_starts" (eb B.G A0):=gF5 ["things", "starts", "thing"] U (Y.f.q0.at 18 U U:) U (by trivial)
set_option r "3 are_words zZ 19;1 has_all AC 20;2 is_told_apart Ad 21;11 check_words_of_things x3 22" in instance:Df B ϑ0 "ϑ1" (eb B.G ϑ2):=eo U (Y.f.q0.at ϑ3 U U:) U (by trivial)
instance:Df B 2 "check_dark" (eb B.G CN):=eo U (Y.f.q0.at 23 U U:) U (by unfold CM;trivial)
set_option r "3 is_way eb I0 eo 0 24;4 check_ways eb CO eo 0 25;3 is_verb eb Ke eo 0 26;4 check_verbs eb zP eo 0 27;1 are_apart eb z4 eo 0 28;11 check_vocabulary eb zc eo 0 29;12 check_parts eb BL eo 0 30;4 does eb A1 eo 0 31;4 refuses eb xc eo 1 0;5 hand_rules o? CP A? 1 1;5 put_rules o? DT A? 1 2;5 lid_rules o? DU A? 1 3" in instance:Df B ϑ0 "ϑ1" (ϑ2 B.G ϑ3):=ϑ4 U (Y.f.qϑ5.at ϑ6 U U:) U (by trivial)
set_option r "5 flame_rules o? BM A? 4;3 way_tests o? DV A? 5;5 go_rules o? ET A? 6;5 wait_rules o? FU A? 7;6 common_rules o? A2 A? 8;3 common_verbs o? zx A? 9;1 by_name eb GP eo 10;10 mosts_by_name eb Ae eo 11;1 verbs_by_word eb y4 eo 12" in instance:Df B ϑ0 "ϑ1" (ϑ2 B.G ϑ3):=ϑ4 U (Y.f.q1.at ϑ5 U U:) U (by trivial)
instance:Df B 1 "by_verb" (eb B.G Kh):=eo U (Y.f.q1.at 13 U U:) U (by unfold Kg;refine#v[Q7 (stW (by kernel_rfl) L8 U) (RV qS U (Mq (Mg B.G.K (NX (Kx (by kernel_rfl))))) (pgI (by kernel_rfl)) (Kz (OO (NW B.G.K je l4 pS Gi (TB (Kx (by kernel_rfl)) (SO (NX (Kx (by kernel_rfl))) (Ff.p (B:=B))) (Sb AJ) #v[U,U,U,U]) (yx (Kx (by kernel_rfl)) AJ))))) (NB (PE.ZY (Kx (by kernel_rfl))))])
set_option r "of_kind Y 2;all_verbs 6 3" in instance:Mf B 9 "ϑ0" yϑ1:=#v[λc h e=>by
 unfold yϑ1 at e;split at e
 .cases e;exact n7 (k:=8) (Y.f.k.at 14 U U:) U Y.f.q4ϑ2 U (by trivial)
 .cases e]
set_option r "1 is_same_text zy 14;4 copy_of GQ 15" in instance:Df B ϑ0 "ϑ1" (eb B.G ϑ2):=eo U (Y.f.q1.at ϑ3 U U:) U (by trivial)
set_option r "thing_of v7 4;most_of xB 5;verb_of xl 6;you AD 7" in instance:Mf B 9 "ϑ0" ϑ1:=#v[λc h e=>by
 unfold ϑ1 at e;split at e
 .cases e;exact n7 (k:=8) (Y.f.k.at 14 U U:) U Y.f.q4ϑ2 U (by trivial)
 .cases e]
set_option r "2 is_by_command xa 16;2 is_here zL 17;10 named Bq 18;11 is_of_kind Ao 19;11 is_term Cd 20;11 is_place CQ 21;12 is_moved EU 22;10 is_mark_value y7 23;13 is_move GR 24;1 is_said Ce 25;10 is_verb_name A3 26;1 does_or_refuses zz 27" in instance:Df B ϑ0 "ϑ1" (eb B.G ϑ2):=eo U (Y.f.q1.at ϑ3 U U:) U (by trivial)
instance:Df B 12 "is_plain_test" (eb B.G Ag):=eo U (Y.f.q1.at 28 U U:) U (by trivial)
instance:Df B 1 "is_test" (eb B.G (zi 0)):=eo (k:=0) U (Y.f.q1.at 29 U U:) U (by trivial)
set_option r "13 1 12;14 2 13;15 3 14;16 4 15" in instance:Df B ϑ0 "is_test" (eb B.G (zi ϑ1)):=eo (k:=ϑ2) U (Y.f.q1.at 29 U U:) U (by unfold Cf;trivial)
set_option r "14 is_deed GT 1 30;18 are_tests DW 1 31;15 are_deeds DX 2 0;19 is_rule GU 2 1" in instance:Df B ϑ0 "ϑ1" (eb B.G ϑ2):=eo U (Y.f.qϑ3.at ϑ4 U U:) U (by trivial)
instance:Kf B 20 "World" 14 Aq []:=V? (Y.f.k.at 14 U U:) (Y.f.a.at 14 U U:) U Y.f.q48 U U (by unfold Ap;trivial)
set_option r "9 is_dark zQ 8 49;9 own_marks Ah 8 50;9 names yI 8 51;9 way_words xM 8 52;9 rules_to_try zd 8 53;12 parts Bs 11 54" in instance:Mf B ϑ0 "ϑ1" ϑ2:=#v[λc h e=>by
 unfold ϑ2 at e;split at e
 .cases e;exact n7 (k:=ϑ3) (Y.f.k.at 14 U U:) U Y.f.qϑ4 U (by trivial)
 .cases e]
set_option r "10 own_starts eb CS eo 2;10 first_value eb yZ eo 3;13 first_stand eb xT eo 4;1 value_of eb CT eo 5;2 at_of eb Bt eo 6;2 mark_of eb AE eo 7;1 with_part eb Bu eo 8;3 holders_of o? yP A? 9;10 room_of eb AF eo 10;10 has eb Uq eo 11;10 is_shut eb zM eo 12;11 in_open eb zN eo 13" in instance:Df B ϑ0 "ϑ1" (ϑ2 B.G ϑ3):=ϑ4 U (Y.f.q2.at ϑ5 U U:) U (by trivial)
set_option r "12 burns_in eb A8 eo 14;13 is_lit eb FW eo 15;14 is_seen eb xD eo 16;15 seen o? A9 A? 17;10 is_of_way eb Bv eo 18;11 things_of eb xC eo 19;12 meant eb xg eo 20;10 at_parts eb EV eo 21;10 mark_parts eb Ar eo 22;11 can_go eb FX eo 23;11 can_show eb EW eo 24" in instance:Df B ϑ0 "ϑ1" (ϑ2 B.G ϑ3):=ϑ4 U (Y.f.q2.at ϑ5 U U:) U (by trivial)
instance:Mf B 16 "holds" (wG 0):=#v[λc h e=>by
 unfold wG CU at e;split at e
 .cases e;exact n7 (k:=15) (Y.f.k.at 3 U U:) U Y.f.q55 U (by trivial)
 .cases e;exact n7 (k:=15) (Y.f.k.at 4 U U:) U Y.f.q56 U (by trivial)
 .cases e;exact n7 (k:=15) (Y.f.k.at 5 U U:) U Y.f.q57 U (by trivial)
 .cases e;exact n7 (k:=15) (Y.f.k.at 6 U U:) U Y.f.q58 U (by trivial)
 .cases e;exact n7 (k:=15) (Y.f.k.at 7 U U:) U Y.f.q59 U (by trivial)
 .cases e;exact n7 (k:=15) (Y.f.k.at 8 U U:) U Y.f.q60 U (by trivial)
 .cases e;exact n7 (k:=15) (Y.f.k.at 15 U U:) U Y.f.q61 U (by trivial)
 .cases e]
set_option r "17 1 16;18 2 17;19 3 18" in instance:Mf B ϑ0 "holds" (wG ϑ1):=#v[λc h e=>by
 unfold wG at e;split at e
 .cases e;exact n7 (k:=ϑ2) (Y.f.k.at 9 U U:) U Y.f.q62 U (by unfold z5;trivial)
 .cases e;exact n7 (k:=ϑ2) (Y.f.k.at 10 U U:) U Y.f.q63 U (by unfold zA;trivial)
 .exact(Mf.p (B:=B) (g:=wG 0) c h e).mono U]
instance:Mf B 14 "done" CV:=#v[λc h e=>by
 unfold CV at e;split at e
 .cases e;exact n7 (k:=13) (Y.f.k.at 11 U U:) U Y.f.q64 U (by trivial)
 .cases e;exact n7 (k:=13) (Y.f.k.at 12 U U:) U Y.f.q65 U (by trivial)
 .cases e]
set_option r "10 is_object z6 2 25;11 fits_form DY 2 26;12 is_command CW 2 27;13 check_command y8 2 28;20 fits Li 2 29;15 outcome Eg 2 30;21 answered EZ 2 31;22 step Lj 3 0" in instance:Df B ϑ0 "ϑ1" (eb B.G ϑ2):=eo U (Y.f.qϑ3.at ϑ4 U U:) U (by trivial)
set_option r "10 objects_of yR 1 yQ;11 commands E2 2 E1" in instance:Df B ϑ0 "ϑ1" (o? B.G ϑ2):=A? U (Y.f.q3.at ϑ3 U U:) U (by unfold ϑ4;trivial)
set_option r "1 words_of eb CY eo 3;1 phrases_about eb Ai eo 4;2 phrases_of eb CZ eo 5;10 has_words eb zj eo 6;10 read_way eb E3 eo 7;16 read_things eb BO eo 8;17 read eb Ja eo 9;1 _law_cell_at eb x9 eo 10;1 _law_draws o? yS A? 11;1 _law_names eb Da eo 12;1 _law_words eb Dc eo 13;2 _law_things eb zR eo 14" in instance:Df B ϑ0 "ϑ1" (ϑ2 B.G ϑ3):=ϑ4 U (Y.f.q3.at ϑ5 U U:) U (by trivial)
set_option r "marks eb As eo 15;all_marks eb zO eo 16;ways eb BA eo 17;verbs eb Dg eo 18;common o? xU A? 19" in instance:Df B 1 "_law_ϑ0" (ϑ1 B.G ϑ2):=ϑ3 U (Y.f.q3.at ϑ4 U U:) U (by trivial)
instance:Df B 1 "_law_test" (eb B.G (xp 0)):=eo (k:=0) U (Y.f.q3.at 20 U U:) U (by trivial)
set_option r "2 1;3 2;4 3" in instance:Df B ϑ0 "_law_test" (eb B.G (xp ϑ1)):=eo (k:=ϑ1) U (Y.f.q3.at 20 U U:) U (by unfold BB;trivial)
set_option r "1 deed z7 21;5 rules Au 22" in instance:Df B ϑ0 "_law_ϑ1" (eb B.G ϑ2):=eo U (Y.f.q3.at ϑ3 U U:) U (by trivial)
instance:Df B 6 "_law_parts" (eb B.G Dh):=eo U (Y.f.q3.at 23 U U:) U (by unfold F1;trivial)
instance:Df B 1 "_law_asked" (eb B.G (yj 0)):=eo (k:=0) U (Y.f.q3.at 24 U U:) U (by trivial)
set_option r "3 1 2;4 2 3;5 3 4" in instance:Df B ϑ0 "_law_asked" (eb B.G (yj ϑ1)):=eo (k:=ϑ2) U (Y.f.q3.at 24 U U:) U (by unfold Av;trivial)
instance:Df B 3 "_law_done" (eb B.G DZ):=eo U (Y.f.q3.at 25 U U:) U (by trivial)
set_option r "7 rule D1 26 Hv;22 world Di 27 F2;23 walked y3 28 EA" in instance:Df B ϑ0 "_law_ϑ1" (eb B.G ϑ2):=eo U (Y.f.q3.at ϑ3 U U:) U (by unfold ϑ4;trivial)
set_option r "1 blanked zB 3 29;1 phrases ya 3 30;2 read D2 3 31;2 pool BC 4 0;3 drawn Aw 4 1" in instance:Df B ϑ0 "_law_ϑ1" (eb B.G ϑ2):=eo U (Y.f.qϑ3.at ϑ4 U U:) U (by trivial)
def VF:W? B (H? (top 191)) "law" (top 191) (wM (top 191)) 23 PB:=by
 unfold PB;refine MN ?_ ?_
 all_goals trivial
end
end K44x
namespace K44x
open PySem L2 L3 L4
def Qk(K:aw):Sp:=λd H Q t=>∃(a:Addr) (b:List Int),d=[.ref a]/\e8 K H a (b.map V.int)/\b.length<=63/\∀c,Q (.X γ) c
theorem Ku{G:Bg}{H:Hp}:∀a:List Int,a6 G H (a.map D.int) (a.map V.int)
 |[]=>wC
 |n::a=>wJ (yf n) (Ku a)
def Yg{G:Bg}:∀c H Q E,Qk G.K c H Q E->eb G YL c H Q E:=λc H Q E h=>by obtain⟨a,b,rfl,i,f,k⟩:=h;refine#v[H,[.nq (b.map D.int)],.X γ,vX.refl _,wJ (by unfold L4.cm;exact#v[a,_,U,i,Ku b]) wC,adf b f,λv e d t t t t r=>?_];unfold L4.cm at r;subst r;exact k d
section
variable{K:aw}{x m q:Str}{st:Stmt}{f C:Addr}{oc:ab}{od:Option Addr}{kV doc pm:ab}{an:Option Addr}{cdv ct:ab}{osl:Array (Option ab)}
def VG(lk:K.lookup f=Z #v[oc,od,.func (fH x q (zl st) (wM st) (v8 st) .none kV doc pm an cdv ct),osl])(b:iK K cdv q=γ)(c:eG K (.ref f)=γ):∃a,Xi K x q st f a:=#v[_,#v[_,_,_,_,_,_,_,_,_,U,lk,b],c]
def gd_mk(h:jw K bN x=Z (Z (.ref f)))(lk:K.lookup f=Z #v[oc,od,.func (fH x x (zl st) (wM st) (v8 st) .none kV doc pm an cdv ct),osl])(a:iK K cdv x=γ)(b:eG K (.ref f)=γ):GD K x st:=#v[f,(VG lk a b).imp λt F=>#v[h,F]]
def gm_mk(h:cZ K (.ref C) m=Z (Z (.ref f)))(b:kE K (.ref f)=γ)(lk:K.lookup f=Z #v[oc,od,.func (fH m q (zl st) (wM st) (v8 st) .none kV doc pm an cdv ct),osl])(a:iK K cdv q=γ)(c:eG K (.ref f)=γ):GM K C m q st:=#v[f,(VG lk a c).imp λt F=>#v[h,b,F]]
end
theorem all_mk{l:iM}{w:aE}{K:aw}{h:Heap}{p:Str->Option ab}{J:Addr}(X:K.In h)(I:h.Ns bN p)(hfa:p "law" = Z (.ref J)){q r t u x y z A C E b d i j m o:Addr}(F:Fx K q r t u x y z A C E b d i j m o):
  ∃H:cn,(∀(s:af) (v:ab),iN s H #v[[v],[]] [("_law_script", v)])/\∀a5:Heap,K.In a5->a5.Ns bN p->zI l.prog w K p a5 x? 24 J H ["_law_script"] (Qk K):=by
 have n9:∃B:Bg,B.K=K/\B.ca 0=q/\B.ca 1=r/\B.ca 2=t/\B.ca 3=u/\B.ca 4=x/\B.ca 5=y/\B.ca 6=z/\B.ca 7=A/\B.ca 8=C/\B.ca 9=E/\B.ca 10=b/\B.ca 11=d/\B.ca 12=i/\B.ca 13=j/\B.ca 14=m/\B.ca 15=o/\B.hs=tupleKeyHash (v5 l.prog w):=#v[#v[K,λc=>[q,r,t,u,x,y,z,A,C,E,b,d,i,j,m,o].getD c 0,_],U,U,U,U,U,U,U,U,U,U,U,U,U,U,U,U,U,U];obtain⟨B,rfl,rfl,rfl,rfl,rfl,rfl,rfl,rfl,rfl,rfl,rfl,rfl,rfl,rfl,rfl,rfl,rfl,M⟩:=n9;have AT:∀a5,Yx #v[l.prog,w,p,a5,B]:=λa5=>#v[#v[h,X,I],M,F];obtain⟨f,H,a,FF⟩:=F.q4.at 2 U U;have e:=hfa.symm.t (jv X I a);cases e;obtain⟨S,T,kV,doc,pm,P,cdv,Q,osl,rfl,lk,hcd⟩:=FF.ex;exact#v[_,λs v=>.of_eq U,λa5 _ _=>(Ta U U U FF (y0 (N:=H? (top 191)) (ps:=["_law_script"]) (np:=1) (n:=14) (by kernel_rfl)).1 ((@VF _ (AT a5)).ok U _)).imp (Yg (G:=B))]
def walk{l:iM}{q:aL}{loose:aB}{XP:(Str->Option ab)->Heap->Prop}{YP:aE->Heap->Prop}{d:DefRec}{K:Params->aw}(j:l.most=Z 63)(hdf:d.params.defaults=[])
  (hY:∀(w:aE) (h:Heap),YP w h->(K w.params).In h)
  (F:∀(w:aE) (b:Str->Option ab) (c:Addr) (h:Heap),(K w.params).In h->h.Ns bN b->b d.name=Z (.ref c)->
   ∃e:cn,(∀(s:af) (u:ab),iN s e #v[[u],[]] [("_law_script", u)])/\∀a5:Heap,(K w.params).In a5->a5.Ns bN b->zI l.prog w (K w.params) b a5 x? 24 c e ["_law_script"] (Qk (K w.params))):
  W.WalkO q loose XP YP l.row.toRowW d [] (λf o=>nL f o):=
 L2.We (n:=63) (k:=24) (x:="_law_script") (CX:=λt=>x?) (sp:=λw=>Qk (K w.params)) j (by decide) hdf #v[U,by decide,by decide] hY F (λt t a m i t hS=>#v[a,m,U,hS,i,λt=>U]) λt t t t t z=>z
end K44x
set_option maxHeartbeats 0
open PySem PySem.W PyProof.Rows
set_option h true
theorem PySem.Challenge.cw_tellworld_k44_whole_rows_read_holds : PySem.Challenge.rw_tellworld_k44_whole_rows_read.Holds := by
 refine hd ?_
 k_fill
 refine K44x.walk (l:=PySem.Challenge.rw_tellworld_k44_whole_rows_read) rfl rfl (λw h Y=>Y) ?F
 case F=>
  intro w mg fa h KX G hmg;refine' K44x.all_mk KX G hmg ?Q
  case Q=>
   constructor
   all_goals repeat' first|exact L4.Al.nil|apply L4.Al.cons
   all_goals as_aux_lemma=>first
   |k_is
   |kernel_rfl
   |exact⟨⟨⟨by k_is,by k_is,by k_is,by k_is⟩,by k_is,by k_is,by k_is,by k_is⟩,by k_is,by k_is,by kernel_rfl⟩
   |exact⟨_,by k_is⟩
   |exact K44x.gd_mk (by k_is) (by k_is) (by k_is) (by k_is)
   |exact K44x.gm_mk (by k_is) (by k_is) (by k_is) (by k_is) (by k_is)
   |exact⟨_,_,_,_,by k_is,by k_is,by rfl,by rfl,by simp,by repeat' first|exact .nil|exact .cons rfl .nil|refine .cons rfl ?_⟩
   |exact⟨_,_,_,_,[_],_,by k_is,by k_is,⟨⟨_,_,_,_,_,_,_,_,_,rfl,by k_is,by k_is⟩,by k_is⟩,by k_is,by rfl,.cons (by first|rfl|exact⟨_,rfl⟩) .nil⟩
   |exact⟨_,_,_,_,[_,_,_],_,by k_is,by k_is,⟨⟨_,_,_,_,_,_,_,_,_,rfl,by k_is,by k_is⟩,by k_is⟩,by k_is,by rfl,.cons (by first|rfl|exact⟨_,rfl⟩) (.cons (by first|rfl|exact⟨_,rfl⟩) (.cons (by first|rfl|exact⟨_,rfl⟩) .nil))⟩
end
