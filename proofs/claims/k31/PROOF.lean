import PyProof.Rows.All
import Open.Pieces
import OpenK.KLine
import PySem.Challenge.RW_tellworld_k31_commands_told
import Wide.All
import OpenK.AllK
import Wide.FinOn
import PyProof.EqAt
import PyProof.EqKinds
import PyProof.TupleCall
import PyProof.StrWalks
import PyProof.ConsumeWalk
import PyProof.NeKinds
import PyProof.Rows.SetFrom
import KE.KIsAll
import PyProof.WalksMore
import PyProof.TupleKey
import PyProof.DictWalks
import PyProof.Rows.ZipGen
import KE.KDictLaws
import PyProof.DictItems
import KE.KSortTup
import PyProof.TupleOfSeq
import PyProof.Rows.SortStr
import PyProof.Rows.StrInSeq3
import PyProof.TupleIter
import KE.KDictOf
import PyProof.CollectWalk
import PyProof.Rows.SeqMore
set_option genSizeOf false
local macro_rules (kind:=Lean.Parser.Command.declaration)|s=>do
 if s.getPos?.isNone||s[1][1][0].getId.getRoot== `PySem then Lean.Macro.throwUnsupported
 let s:=s.rewriteBottomUp (·.setInfo .none)
 if s[1].getKind∈[``Lean.Parser.Command.definition,``Lean.Parser.Command.abbrev,``Lean.Parser.Command.instance]&&s[0][4].isNone then
  return s.setArg 0 (s[0].setArg 4 (Lean.mkNullNode #[Lean.Syntax.node .none ``Lean.Parser.Command.noncomputable #[Lean.mkAtom "noncomputable"]]))
 return s
set_option compiler.extract_closed false
noncomputable section
open List renaming length_map->af,length_append->au,length_cons->aB,all_eq_true->aE,mem_cons_of_mem->aO,getElem?_eq_getElem->aY,size_toArray->aM,mem_cons_self->aP,mem_map->az,mem_append_right->aZ,map_cons->aG,mem_singleton->aX,mem_cons->aH,mem_append->aQ,map_append->aS,mem_append_left->bg,map_map->aJ,getElem?_eq_some_iff->bE,getElem?_map->bb,range->aL,mem_of_getElem?->bF,append_assoc->bq,mem_filter->bp,getElem?_set->bC,length_take->bz,mem_range->bo,length_singleton->bP,append_nil->bA,mem_map_of_mem->bM,replicate->br,length_replicate->bV,nodup_append->bJ,length_filter_le->b9,not_mem_nil->bX,length_range->cb,nil_append->bY,getElem?_append_right->dQ,getElem?_append_left->dR,filterMap_cons->cX,flatMap_cons->cZ,getElem?_drop->dt,zip_cons_cons->du,mem_flatMap->c9,replicate_succ->dS,length_set->dc,length_nil->de,getElem?_eq_none->eK,length_drop->dw,lookup_cons->dy,any_eq_true->dA,length->cg,nodup_cons->dD,find?_cons->dE,take_of_length_le->fH,lookup->cv,getElem_mem->dX,getD_eq_getElem?_getD->gr,drop_eq_getElem_cons->gv,flatten_cons->eS,mem_of_mem_take->fJ,mergeSort_perm->fL,getElem?_replicate->gy,length_eq_zero_iff->gz,pairwise_mergeSort->gA,getElem?_set_self->gE,zipWith_cons_cons->gH,any_cons->d8,getElem?_toArray->gL,take_sublist->fN,map->cn,perm_append_singleton->iu,map_nil->eA,all_cons->fo,foldl_cons->fS,length_zip->fU,mem_filterMap->gS,filter_cons_of_pos->iz,map_id->eB,zipWith->fw,contains_iff_mem->iA,map_take->fW,getElem?_set_ne->iC,of_mem_zip->gY,length_zipWith->iH,getElem_of_mem->iI,filter_sublist->iJ,map_eq_nil_iff->iK,ext_getElem?->iP,take_add_one->iV,getElem_inj->iZ,filter_cons->i7,filter_cons_of_neg->jX,drop_eq_nil_of_le->j1,filter_eq_nil_iff->j4,zip_append->jb,filterMap_append->j8,mem_iff_getElem->kg,mem_of_mem_drop->kj,length_eraseIdx->km,getElem?_range->kx,filter_eq_self->ky,length_pos_iff->kz,map_drop->jm,zip_map'->jq,contains_cons->kG,map_filterMap->kK,any_eq_false->kN,foldl_append->kR,nodup_range->lG,foldl->jH,nodup_nil->mj,drop_zero->mn,drop_nil->mG,all_map->mM,rec->ni
open PySem renaming wpAny_bind->ae,Value->aa,Shared->ab,wpAny_pure->ai,wpAny->ag,starEach->aw,sizeLine->ay,mainGlobals->aK,Program->ar,Around->av,World->aq,wpAny_holding->bu,compareOp->aV,SetTable->aW,wpAny_setState_of->cc,Spec->pj,wpAny_truthy_bool->cq,wpAny_Call_Name_kw->cA,assignEach->bD,wpAny_newObj_type->cB,sizeLine_eq->bK,wpAny_mono->bH,codeAny_builtin->cF,FuncData->bB,backTo->ba,strKind->cI,wpAny_pyIter_list->dW,bootBuiltins->cJ,attributeBase->df,binaryOp->bO,keywordEach->cM,sysModules->cw,codeAny->bI,mem_of_lookup->fK,wpAny_call_entry->eV,letOwnedTupleGo->eX,wpAny_specialOf->eZ,behindInMarks->dZ,swapsWith->cy,plainId_quiet->d9,foldedSetIterable->fM,ofAClassStatement->fO,wpAny_setField->fj,filterMap_getElem?_range->iy,wpAny_passesOwn->fR,codeAny_mono->fq,NameKind->cP,wpAny_storeSet_of->gX,GenState->dh,call_meets->fz,tupleKind_room_in1->iN,isSubtype_type->hG,wpAny_rule->fB,wpAny_Call_method->iR,Builtin->dj,wpAny_standAt->hJ,wpAny_callSpecial?_slot->jW,wpAny_forIn_list->i4,wpAny_askSetting->i6,Paired->fC,wpAny_pyNext_list_item->jY,Result->cR,wpAny_typeOf->hX,Keyword->dN,call_meetsIn->hZ,Scope->b8,wpAny_execs_nil->i9,wpAny_updateSeq->jc,wpAny_isTrue_Compare1->j5,wpAny_pyNext_list_end->j6,wpAny_eqIsQuiet_tuple->j7,builtinLookup_eq_fast->j9,carriedByValue->je,wpAny_seqItems->jf,codeAny_call_builtin->kh,typeIs_none->ic,wpAny_pyIter_tuple->kD,wpAny_call->ig,IsPart->dP,PlainAttrs->ik,Within->js,BindsTo->fE,seqIndex_neg->jx,slot_list_getitem->kP,wpAny_pyIter_slot->kX,fits_of_scanBound->kY,wpAny_setEpoch_of->kZ,wpAny_pyHash_str->lg,wpAny_execs_cons->lh,noFill_tuple_add->lp,wpAny_isInstance->lI,wpAny_field->jC,seqIndex_of->jD,codeAny_of_tree->lY,typeLookup_type->l4,wpAny_Name->jE,Operator->il,typeIs_int->jG,meets_dict_get->mf,call->jI,wpAny_runValue->mh,boot_len->mi,entryFor_alias->mm,KeyKind->mr,intBits_le_64->mw,seq_tuple_add->mx,evalPart_none->mC,call_list_seq->mF,signature?_of->mH,CmpOp->eE,Params->gm
open PySem.Heap renaming get?_push_of_some->aA,get?_push_size->aU,lt_size->aD,size_push->bZ,get?_update_self->dr,SameBut->cu,get?_update_other->gG,ExtBut->m7
open Bool renaming and_eq_true->aF,false_ne_true->aT,eq_iff_iff->cE,false_eq_true->eO,not_eq_true'->eT,or_eq_false_iff->iE,or_eq_true->gZ,eq_false_iff->iW,not_eq_true->lE,and_false->md,rec->jM
open Nat renaming le_refl->aC,ne_of_lt->aI,lt_of_lt_of_le->bG,le_trans->bc,lt_succ_self->cD,lt_succ_of_lt->cY,zero_le->bR,lt_irrefl->dH,le_add_right->eW,ne_of_gt->eh,lt_of_le_of_lt->gV,ble_eq->dM,le_of_ble_eq_true->iB,mod_lt->eC,le_of_lt->fX,min_self->fY,le_succ->f7,ble->dO,add_right_comm->kA,zero_add->jr,succ_pos->jy,le_of_lt_succ->kT,le_of_succ_le->lb,min_le_right->lu,le_of_not_lt->lC,min_eq_left->l7,beq->gj,le_of_eq->mJ,sub_self->mK,pow_succ->mQ,max_le->ng
open Array renaming length_toList->bh,getD_eq_getD_getElem?->eG,getElem?_toList->fI,getElem?_eq_getElem->gw,getElem?_eq_some_iff->jS,toList_push->iX,size_eq_one_iff->ka,forIn_toList->kH,replicate->l3,size_map->ml,toList->mI
open PySem.W renaming Frag->ak,kia_one->bS,emptyDict->cK,findIn->bT,kitOne->cj,instObj->dg,keepIn->cO,kitx_list->f6,kitx_dict->ia,fnOf->dq,codeIn->fD,plainGet_of->ji,callWith_K0->jk,plainGet->ie,OpenLaw->gh,kitx_tuple->jt,callWith_K->jw,cellsFrom_some->lj,methodObj->jA,hasDictIn->jB,methodCall_KW->lX,lookIn->ip,looks_findIn->l9,makes_of->jJ,takerIn->jK,makesIn->jL,nsIn->gn,mg_of->iq,plainOver->mU,make_core->mV,specialIn->mW,kitx_none->mX,kitx_bool->mY,isFn->ir
open Int renaming eq_ofNat_of_zero_le->bL,toNat_natCast->eR,emod_lt_of_pos->gW,emod_nonneg->hE
open PyProof.Rows.F renaming plain_set_update_loop->cz,entry_set_update_loop->eJ
open Option.some renaming inj->bN,injEq->o8
open PySem.Heap.SameBut renaming update->cp,refl->pd
open PySem.SetTable.layClean renaming free->cU
open PySem.Around renaming under_plainId->cW,under->ju
open Prod renaming snd->bf,fst->bU
open PySem.SetTable renaming bits->bQ,below->cG,grown->cH,runEnd->dF,Probe->dG,insertAt->eU,turns->fi,fits->fV,advance->i8,insertAt_perm->j3,laid->jn,fill->jo,layClean->kU,has->mO
open PySem.Builtin.List renaming listTooLong->eI,listExtendWith->jO,listLengthHint->jP,listSameRef->jV
open PySem.Obj renaming data_mapFields->dv,mapSeq->cN,mapFields->ee,isFreed_of_fields->gO,putSet->fA,cls_mapFields->iY
open PySem.Calls renaming spliced_cons->dU,callWith_builtin->fG,spliced_nil->eQ,evalArgs_plain->gQ,Name_function_global->jQ
open Classical renaming propDecidable->fF,byContradiction->jT
open False renaming elim->b0
open PyProof.Rows renaming slot_tuple_getitem->gq,StrsAre->iG,AllBare->di,subscriptTail_builtinR->jZ,boot_isinstance->jd,IntsAre->gk,slicePart_none->ma,Subscript_->jF,IsTup->gp
open PySem.Builtin.Slice renaming slicePlaces->gu,sliceAdjust->iw,sliceApplied->jR,slicePartIndex->nu,sliceFields->nP
open Option renaming map_some->dY,bind_eq_some_iff->gB,getD_none->ly,getD_some->lD,map->m9
open PySem.Builtin.Tuple renaming tupleExact->gx,tupleItemsOf->ny
open PySem.F renaming called_set->dJ,plainAttrs_list->fP,slot_NoneType_hash->gR,slot_dict_get->fT,slot_list_extend->gU,sub_list_frozenset->iF,slot_list_append->iM,args_dict_get_2->iQ,plainAttrs_dict->iU,entry_dict_get->i3,slot_dict_setdefault->j2,args_list_extend_2->kc,sub_list_set->jg,entry_list_extend->ku,args_tuple_add_2->kE,type_list_append->kI,type_list_extend->kJ,entry_tuple_add->kO,slot_list_clear->kQ,plain_list_iadd->la,slot_tuple_add->lq,slot_int_rmul->lQ,type_dict_get->lS,plain_set_new->lZ,slot_set_iter->l5
open PySem.SetTable.probe renaming go->fQ
open PySem.Value renaming isStrOf->fm,isInt->mT
open List.Perm renaming eq_of_pairwise->ix
open Ne renaming symm->cQ
open Nat.succ renaming inj->fZ
open LawfulBEq renaming eq_of_beq->eD
open PySem.SeqAt.EqAt renaming of_refs->iO,same->ja,none_int->kn,none_str->ko,int_none->kq,str_none->kr,int_str->kB,str_int->kC,tuple_none->oj,tuple_bool->om,tuple_list->oo,list_tuple->oq,none_tuple->ou,bool_tuple->ox,none_bool->oA,bool_none->oB,bool_bool->oE,tuple_int->oF,tuple_str->oG,list_none->oH,list_bool->oI,none_list->oJ,bool_list->oK,int_tuple->oM,str_tuple->oN,bool_int->oO,bool_str->oP,int_bool->oQ,str_bool->oR,list_int->oT,list_str->oU,int_list->oV,str_list->oW,int_int->oZ,str_str->o3
open PySem.AutoSeq1 renaming wpAny_loadPart'->jU
open PySem.Str renaming ofString->hU
open PySem.SeqAt renaming EqAt->f9,notIn_listAt->kF
open PySem.Walks renaming list->gb
open PySem.Moved renaming trans->ib
open PySem.Paired renaming length->jh,snoc->m3
open PySem.Shared renaming TypeIs->jl
open PySem.Heap.IsList renaming extBut->kM
open PySem.Code renaming isFrame->jv,frames->mZ
open PySem.SetTable.below renaming go->kW
open Sum.inr renaming inj->jz
open PySem.Builtin.Frozenset renaming updateFrom->nv,newClass->nD,sizeOf->oe,slot0->oh
open PySem.PassesOwn renaming never->l8
open PySem.SeqAt.RcNeAt renaming lists_lengths->nz,tuples->oX,lists->o4
open PySem.EqNone renaming eq_none_none->nE,eq_none_bool->nF,eq_bool_none->nG,ne_none_none->nJ,ne_none_bool->nL,ne_bool_none->nM,eq_none_int->nQ,eq_none_str->nR,eq_int_none->nS,eq_str_none->nU,ne_none_int->nW,ne_none_str->nX,ne_int_none->nY,ne_str_none->n4
open PySem.EqMixed renaming eq_bool_str->nH,eq_str_bool->nI,ne_bool_str->nN,ne_str_bool->nO,eq_int_str->nT,eq_str_int->nV,ne_int_str->nZ,ne_str_int->n8
open PySem.SeqAt.RcAt renaming lists_lengths->oa,tuples->o9,lists->pf
open PySem.Builtin.Range renaming rangeSize->og
open PySem.Pv renaming boot_list->mN,boot_set->m5,boot_int->m6
open PySem.pickOrder renaming go->mR
open Prod.mk renaming inj->mS
open PySem.Heap.IsSliceOf renaming new->oY
open PySem.W.WShape renaming has->m8
open List.Sublist renaming nodup->o6,refl->pe
open PySem.Within renaming cons->o7
open PySem.Txt renaming mul->jN
open List.Pairwise renaming map->pb
open PyProof.Rows.IsTup renaming new->nh
open PySem.Heap.DictOf renaming new->ph
def aN:=@decide_eq_false
def ah:=@if_pos
def aj:=@if_neg
def aR:=@decide_eq_true
def ao:=@absurd
def bw:=@decide_eq_true_eq
def bx:=@of_decide_eq_true
def bj:=@congrArg
set_option Elab.async false
set_option linter.all false
namespace L5
open PySem PySem.W
noncomputable def pick(l:List Obj):Nat->List Addr->List Obj:=
 @ni Obj (λ_=>Nat->List Addr->List Obj) (λ_ _=>[])
  (λo _ ih i as=>@ni Addr (λ_=>List Obj) [] (λa r _=>@jM (λ_=>List Obj) (ih (Nat.succ i) as) (o::ih (Nat.succ i) r) (gj a i)) as) l
theorem Kk(i:Nat)(as:List Addr):pick [] i as=[]:=rfl
theorem Nc(o:Obj)(l:List Obj)(i:Nat)(r:List Addr):pick (o::l) i (i::r)=o::pick l (i+1) r:=by show @jM (λ_=>List Obj) _ _ (gj i i)=_;rw[Nat.beq_refl];rfl
theorem Nd(o:Obj)(l:List Obj)(i a:Nat)(r:List Addr)(h:a≠i):pick (o::l) i (a::r)=pick l (i+1) (a::r):=by
 show @jM (λ_=>List Obj) _ _ (gj a i)=_;have:gj a i=false:=by
  cases q:gj a i with
  |false=>rfl
  |true=>exact ao (Nat.eq_of_beq_eq_true q) h
 rw[this];rfl
theorem Er:∀(l:List Obj) (i:Nat) (as:List Addr),(pick l i as).length=as.length->∀j (hj:j<as.length),∃b,as[j]=i+b/\l[b]?=(pick l i as)[j]?
 |[],i,as,h,j,hj=>by rw[Kk]at h;simp at h;omega
 |o::l,i,[],h,j,hj=>by simp at hj
 |o::l,i,a::r,h,j,hj=>by
  by_cases q:a=i
  ·subst q;rw[Nc]at h ⊢;cases j with
   |zero=>exact⟨0,rfl,rfl⟩
   |succ j=>obtain⟨b,e1,e2⟩:=Er l (a+1) r (by simpa using h) j (by simpa using hj);exact⟨b+1,by rw[List.getElem_cons_succ,e1];exact kA a 1 b,by simpa using e2⟩
  ·rw[Nd _ _ _ _ _ q]at h ⊢;obtain⟨b,e1,e2⟩:=Er l (i+1) (a::r) h j hj;exact⟨b+1,by rw[e1];exact kA i 1 b,by simpa using e2⟩
def live(o:Obj):Bool:=match o with|⟨_,_,.freed,_⟩=>false|_=>true
theorem Nf{h:Heap}{as:List Addr}{K:Frag}(e:as=K.map (·.1))(x:(pick h.objs.toList 0 as,K.all λp=>live p.2)=(K.map (·.2),true)):K.In h:=by
 obtain⟨x1,x2⟩:=mS x;refine Frag.in_of e (iP λj=>?_);rw[bb,bb];by_cases hj:j<as.length
 ·have hl:(pick h.objs.toList 0 as).length=as.length:=by rw[x1,e,af,af]
  obtain⟨b,e1,e2⟩:=Er _ _ _ hl j hj;have hk:j<K.length:=by rw[e,af]at hj;exact hj
  rw[aY hj,aY hk,dY,dY,e1,jr];have e3:h.objs[b]?=some (K[j].2):=by rw[<-fI,e2,x1,bb,aY hk];rfl
  have lv:live K[j].2=true:=aE.mp x2 _ (dX hk);refine bj some ?_;unfold Heap.get?;rw[e3];revert lv;cases K[j].2 with
  |mk c d data sl=>cases data<;>intro lv<;>first|rfl|cases lv
 ·rw[eK (by omega),eK (by rw[e,af]at hj;omega)];rfl
noncomputable def TV(K:gm->Frag) (as:List Addr) (e:∀P,as=(K P).map (·.1)):Hook:=
 ⟨List Obj×Bool,λs=>(pick s.heap.objs.toList 0 as,true),λw=>((K w.params).map (·.2),(K w.params).all λp=>live p.2),InK K,λw s x=>Nf (e w.params) (by
  obtain⟨x1,x2⟩:=mS x;rw[x1,<- x2]),InK.keeps⟩
end L5
section
open PySem PySem.W PyProof.Rows
local macro_rules|`(tactic|o_head ($f:ident $k $as $e))=>`(tactic|o_head ((L5.TV $k $as (fun _=>by kernel_rfl)):W.Hook))
local macro_rules|`(command|#where)=>do
 let mut r:=#[]
 for n in [43:1581] do
  let x:=Lean.mkIdent (.mkSimple s!"tw{((Lean.Name.mkSimple "hd").str s!"o_{n}").hash}")
  r:=r.push ((<-`(command|noncomputable def $x:ident:=0)).raw.rewriteBottomUp (·.setInfo .none))
 return Lean.mkNullNode r
noncomputable section
namespace PySem.W.Fast
def tw3865148145329323564:=0
def tw11334784238850759136:=0
def tw8576131582279294496:=0
def tw1484588488312774368:=0
def tw10843986835698864096:=0
def tw11233446548474340610:=0
def tw112821720426385797:=0
def tw11521511281804667912:=0
def tw10374632558016547081:=0
def tw15234462620972484970:=0
def tw16537210909293163114:=0
def tw3627580296062661867:=0
def tw229164427083005643:=0
def tw938635154573522699:=0
def tw1464999790828575500:=0
def tw5607698405151115213:=0
def tw7774113678449685934:=0
def tw13587151598080963022:=0
def tw1568078959917484304:=0
def tw15912565958993707665:=0
def tw861502493610598483:=0
def tw7155359931933253843:=0
def tw6344153461787385748:=0
def tw9300808954929066293:=0
def tw7464973903666647704:=0
def tw10092494136458128665:=0
def tw16280658162054754363:=0
def tw4142209100229140859:=0
def tw12594988378385778876:=0
def tw5232775305885696284:=0
def tw2286266351801072765:=0
def tw11730204918107410174:=0
def tw11972211112565156383:=0
def tw7351761721107533599:=0
def tw13865323600775035743:=0
def tw2088094134023983780:=0
def tw4356672212130449375:=0
def tw7069829875005968155:=0
def tw1957963121390549972:=0
def tw15433796024959077876:=0
def tw14765400516757040795:=0
def tw5052366592442919827:=0
def tw8997383693586321770:=0
def tw6784737039638806343:=0
def tw12165746136677619103:=0
def tw14510449987592229812:=0
def tw4984954101795155761:=0
def tw8300666452175358407:=0
def tw16629204123399850450:=0
#where
end PySem.W.Fast
end
set_option maxRecDepth 100000 in
set_option maxHeartbeats 0 in
open_top hd for PySem.Challenge.rw_tellworld_k31_commands_told
end
set_option maxRecDepth 100000
namespace L2
open PySem PySem.Spec PyProof.Rows
abbrev Key:=Sum Int Str
def BO:Key->aa->Bool
 |.inl k,v=>mT k v
 |.inr x,v=>fm x v
def TX(w:aq):Key->Int
 |.inl k=>hashInt k
 |.inr x=>hashStr w x
theorem qE:∀{k:Key} {v:aa},BO k v=true->(∃i t,k=Sum.inl i/\v=Value.int i t)\/(∃x t,k=Sum.inr x/\v=Value.str x t)
 |.inl i,v,h=>by obtain⟨t,e⟩:=Value.isInt_shape (k:=i) (v:=v) h;exact .inl ⟨i,t,rfl,e⟩
 |.inr x,v,h=>by obtain⟨t,e⟩:=Value.isStrOf_shape (x:=x) (v:=v) h;exact .inr ⟨x,t,rfl,e⟩
theorem Jm(i:Int)(t:Tok):BO (.inl i) (.int i t)=true:=by simp[BO,mT]
theorem Jn(x:Str)(t:Tok):BO (.inr x) (.str x t)=true:=by simp[BO,fm]
theorem PU(a b:Int):decide ((Sum.inl a:Key)=Sum.inl b)=(a==b):=by
 by_cases e:a=b
 ·subst e;simp
 ·have h:¬(Sum.inl a:Key)=Sum.inl b:=λq=>e (Sum.inl.inj q);rw[aN h];exact(beq_eq_false_iff_ne.mpr e).symm
theorem PV(a b:Str):decide ((Sum.inr a:Key)=Sum.inr b)=decide (a=b):=by
 by_cases e:a=b
 ·subst e;simp
 ·have h:¬(Sum.inr a:Key)=Sum.inr b:=λq=>e (jz q);rw[aN h,aN e]
theorem PX(a:Int)(b:Str):decide ((Sum.inl a:Key)=Sum.inr b)=false:=aN (λq=>nomatch q)
theorem PY(a:Str)(b:Int):decide ((Sum.inr a:Key)=Sum.inl b)=false:=aN (λq=>nomatch q)
def pZ(prog:ar)(w:aq):mr prog w Key where
 is:=BO
 hash:=TX w
 inj:=λv a b ha hb=>by
  rcases qE ha with ⟨i,t,rfl,rfl⟩|⟨x,t,rfl,rfl⟩
  ·rcases qE hb with ⟨j,u,rfl,e⟩|⟨y,u,rfl,e⟩
   ·injection e with e1 _;rw[e1]
   ·exact nomatch e
  ·rcases qE hb with ⟨j,u,rfl,e⟩|⟨y,u,rfl,e⟩
   ·exact nomatch e
   ·injection e with e1 _;rw[e1]
 byValue:=λk v h=>by rcases qE h with ⟨i,t,rfl,rfl⟩|⟨x,t,rfl,rfl⟩<;>rfl
 pyHash:=λhv h=>by
  rcases qE hv with ⟨i,t,rfl,rfl⟩|⟨x,t,rfl,rfl⟩
  ·exact wpAny_pyHash_int h
  ·exact lg h
 eqBool:=λhu hv h=>by
  rcases qE hu with ⟨i,t,rfl,rfl⟩|⟨x,t,rfl,rfl⟩
  ·rcases qE hv with ⟨j,u,rfl,rfl⟩|⟨y,u,rfl,rfl⟩
   ·rw[PU]at h;exact wpAny_eqBool_int h
   ·rw[PX]at h;exact kB i t y u _ _ _ _ h
  ·rcases qE hv with ⟨j,u,rfl,rfl⟩|⟨y,u,rfl,rfl⟩
   ·rw[PY]at h;exact kC x t j u _ _ _ _ h
   ·rw[PV]at h;exact wpAny_eqBool_str h
 «strs»:=λk x t v h=>by
  rcases qE h with ⟨i,u,rfl,e⟩|⟨y,u,rfl,e⟩
  ·exact nomatch e
  ·injection e with e1 _;subst e1;cases v<;>rfl
theorem Fg(prog:ar)(w:aq)(i:Int)(t:Tok):(pZ prog w).is (.inl i) (.int i t)=true:=Jm i t
theorem Fh(prog:ar)(w:aq)(x:Str)(t:Tok):(pZ prog w).is (.inr x) (.str x t)=true:=Jn x t
inductive V where
 |non|bl (b:Bool)|int (i:Int)|str (x:Str)|byt (b:Array UInt8)|flt (b:UInt64)|ref (a:Addr)|ty (n:String)
 deriving DecidableEq
def RelV:V->aa->Prop
 |.non,u=>u=Value.none
 |.bl b,u=>u=Value.bool b
 |.int i,u=>∃t,u=Value.int i t
 |.str x,u=>∃t,u=Value.str x t
 |.byt b,u=>∃t,u=Value.bytes b t
 |.flt b,u=>∃t,u=Value.float b t
 |.ref a,u=>u=Value.ref a
 |.ty n,u=>u=Value.type n
abbrev Vals:List V->List aa->Prop:=fC RelV
variable{us:List aa}
theorem Vals.length{xs:List V}(r:Vals xs us):xs.length=us.length:=jh r
theorem Vals.get:∀{xs:List V} {us:List aa} {i:Nat} {x:V},Vals xs us->xs[i]?=some x->∃u,us[i]?=some u/\RelV x u
 |_,_,_,_,.nil,e=>by simp at e
 |_,_,0,_,.cons r _,e=>by simp at e;subst e;exact⟨_,rfl,r⟩
 |_,_,i+1,x,.cons _ t,e=>by obtain⟨u,h1,h2⟩:=Vals.get (i:=i) (x:=x) t (by simpa using e);exact⟨u,by simpa using h1,h2⟩
variable{u:aa}
theorem Vals.set{x:V}(r:RelV x u):∀{xs:List V} {us:List aa} (i:Nat),Vals xs us->Vals (xs.set i x) (us.set i u)
 |_,_,_,.nil=>.nil
 |_,_,0,.cons _ t=>.cons r t
 |_,_,i+1,.cons q t=>.cons q (Vals.set r i t)
theorem Vals.append:∀{xs ys:List V} {us ws:List aa},Vals xs us->Vals ys ws->Vals (xs++ys) (us++ws)
 |_,_,_,_,.nil,s=>s
 |_,_,_,_,.cons r t,s=>.cons r (Vals.append t s)
theorem Vals.take:∀{xs:List V} {us:List aa} (n:Nat),Vals xs us->Vals (xs.take n) (us.take n)
 |_,_,0,_=>.nil
 |_,_,_+1,.nil=>.nil
 |_,_,n+1,.cons r t=>.cons r (Vals.take n t)
theorem Vals.drop:∀{xs:List V} {us:List aa} (n:Nat),Vals xs us->Vals (xs.drop n) (us.drop n)
 |_,_,0,r=>r
 |_,_,_+1,.nil=>.nil
 |_,_,n+1,.cons _ t=>Vals.drop n t
def xT:Option V->Option aa->Prop
 |some v,some u=>RelV v u
 |none,none=>True
 |_,_=>False
def KV{κ:Type}:List (κ×V)->List (κ×aa)->Prop:=fC λ(p:κ×V) (q:κ×aa)=>p.1=q.1/\RelV p.2 q.2
def kV:Key->V
 |.inl i=>.int i
 |.inr x=>.str x
inductive HO where
 |lst (xs:List V)
 |tup (xs:List V)
 |dK (kvs:List (Key×V))|dT (kvs:List (List Key×V))
 |set (S:Int->Bool) (n:Nat)
 |ins (C dx:Addr) (fs:List (Str×V))
 |own (x:Addr)
 |xd (fs:List (Str×V))
 |met (f x:Addr)
 |rng (lo hi:Int)
 |frz (o:Obj) (u:HO)
 |tbl (ps:Array aa)
 |ext (φ:Heap->Prop)
abbrev Hp:=Addr->Option HO
def upd(H:Hp)(a:Addr)(o:HO):Hp:=λb=>if b=a then some o else H b
variable{a:Addr}{o:HO}
theorem pK{H:Hp}:upd H a o a=some o:=by unfold upd;rw[ah rfl]
variable{b:Addr}
theorem pM{H:Hp}(h:b≠a):upd H a o b=H b:=by unfold upd;rw[aj h]
theorem TY{H:Hp}{u:HO}(h:H a=some o)(h':H b=some u)(d:o≠u):a≠b:=by intro e;subst e;rw[h]at h';exact d (bN h')
theorem sh{H:Hp}(h:H a=some o)(h':H b=none):a≠b:=by intro e;subst e;rw[h]at h';cases h'
section
variable(P:ar)(w:aq)
def qL(H:Hp)(h:Heap)(a:Addr):HO->Prop
 |.lst xs=>xs.length<=ay/\∃(its:List aa) (n:Nat),Vals xs its/\h.get? a=some { cls:=.type "list", data:=.seq its.toArray n }
 |.tup xs=>xs.length<=ay/\∃its:List aa,Vals xs its/\gp h a its.toArray
 |.dK kvs=>kvs.length<=ay/\(a==cw)=false/\∃vs,KV kvs vs/\h.DictOf (pZ P w) a vs
 |.dT kvs=>kvs.length<=ay/\(a==cw)=false/\∃xs:List (List Key×Addr×aa),
   fC (λ(p:List Key×V) (q:List Key×Addr×aa)=>p.1=q.1/\H q.2.1=some (.tup (p.1.map kV))/\RelV p.2 q.2.2) kvs xs/\
   ∃o es ep,h.get? a=some o/\o.ExactDict/\o.data=.dict es ep/\es.toList=xs.map (entryOfKey (tupleKind (pZ P w)))/\(xs.map (·.1)).Nodup
 |.set S n=>h.SetOf (intKind P w) a S n
 |.ins C dx fs=>H dx=some (.own a)/\fs.length<=1000/\dx≠a/\h.get? a=some (dg C dx)/\
   ∃mA,h.Ns1 dx mA/\(∀f,xT (fs.lookup f) (mA f))/\js mA (fs.map (·.1))
 |.own _=>∃o,h.get? a=some o
 |.xd fs=>∃mA,h.Ns1 a mA/\∀f,xT (fs.lookup f) (mA f)
 |.rng lo hi=>∃t u v,h.get? a=some { cls:=.type "range", data:=.fields #[.int lo t,.int hi u,.int 1 v] }
 |.frz o u=>h.get? a=some o/\qL H h a u
 |.tbl ps=>h.get? a=some { cls:=.none,data:=.fields ps }
 |.met f x=>h.get? a=some (jA (.ref f) (.ref x))
 |.ext φ=>φ h/\(∃o,h.get? a=some o)/\∀h1 h2:Heap,φ h1->(∀o,h1.get? a=some o->h2.get? a=some o)->φ h2
def HOk(H:Hp)(h:Heap):Prop:=∀a o,H a=some o->qL P w H h a o
end
section
variable{P:ar}{w:aq}{H H':Hp}{h h':Heap}{a:Addr}{o:HO}
theorem qL.lt(x:qL P w H h a o):a<h.objs.size:=by
 cases o with
 |lst xs=>obtain⟨_,_,_,_,e⟩:=x;exact aD e
 |tup xs=>obtain⟨_,_,_,p⟩:=x;exact p.lt
 |dK kvs=>obtain⟨_,_,_,_,o,_,_,e,_⟩:=x;exact aD e
 |dT kvs=>obtain⟨_,_,_,_,o,_,_,e,_⟩:=x;exact aD e
 |set S n=>obtain⟨o,_,_,_,e,_⟩:=x;exact aD e
 |ins C dx fs=>obtain⟨_,_,_,e,_⟩:=x;exact aD e
 |own y=>obtain⟨_,e⟩:=x;exact aD e
 |xd fs=>obtain⟨_,⟨_,_,_,e,_⟩,_⟩:=x;exact aD e
 |rng lo hi=>obtain⟨_,_,_,e⟩:=x;exact aD e
 |frz ob u=>obtain⟨e,_⟩:=x;exact aD e
 |tbl ps=>exact aD (show h.get? a=some _ from x)
 |met f y=>exact aD (show h.get? a=some _ from x)
 |ext φ=>obtain⟨_,⟨_,e⟩,_⟩:=x;exact aD e
theorem Paired.mapP{α β:Type}{F G:α->β->Prop}:∀{l₁:List α} {l₂:List β},fC F l₁ l₂->(∀a b,F a b->G a b)->fC G l₁ l₂
 |_,_,.nil,_=>.nil
 |_,_,.cons r t,f=>.cons (f _ _ r) (Paired.mapP t f)
theorem qL.stay(x:qL P w H h a o)(k:∀b u,(b=a\/H b=some (.own a))->h.get? b=some u->h'.get? b=some u)
  (ho:∀b,H b=some (.own a)->H' b=some (.own a)) (ht:∀b xs,H b=some (.tup xs)->H' b=some (.tup xs)):qL P w H' h' a o:=by
 induction o with
 |lst xs=>obtain⟨z,its,n,r,e⟩:=x;exact⟨z,its,n,r,k _ _ (.inl rfl) e⟩
 |tup xs=>obtain⟨z,its,r,ob,e,c⟩:=x;exact⟨z,its,r,ob,k _ _ (.inl rfl) e,c⟩
 |dK kvs=>obtain⟨z,y,vs,r,ob,es,ep,e,c⟩:=x;exact⟨z,y,vs,r,ob,es,ep,k _ _ (.inl rfl) e,c⟩
 |dT kvs=>obtain⟨z,y,xs,r,ob,es,ep,e,c⟩:=x;exact⟨z,y,xs,Paired.mapP r λp q z=>⟨z.1,ht _ _ z.2.1,z.2.2⟩,ob,es,ep,k _ _ (.inl rfl) e,c⟩
 |set S n=>obtain⟨ob,es,ep,t,e,c⟩:=x;exact⟨ob,es,ep,t,k _ _ (.inl rfl) e,c⟩
 |ins C dx fs=>obtain⟨d,z,ne,e,mA,⟨od,es,ep,e2,c⟩,r⟩:=x;exact⟨ho _ d,z,ne,k _ _ (.inl rfl) e,mA,⟨od,es,ep,k _ _ (.inr d) e2,c⟩,r⟩
 |own y=>obtain⟨ob,e⟩:=x;exact⟨ob,k _ _ (.inl rfl) e⟩
 |xd fs=>obtain⟨mA,⟨od,es,ep,e,c⟩,r⟩:=x;exact⟨mA,⟨od,es,ep,k _ _ (.inl rfl) e,c⟩,r⟩
 |rng lo hi=>obtain⟨t,u,v,e⟩:=x;exact⟨t,u,v,k _ _ (.inl rfl) e⟩
 |frz ob u ih=>obtain⟨e,q⟩:=x;exact⟨k _ _ (.inl rfl) e,ih q⟩
 |tbl ps=>have e:h.get? a=some { cls:=.none,data:=.fields ps }:=x;show h'.get? a=some { cls:=.none,data:=.fields ps };exact k a _ (.inl rfl) e
 |met f y=>have e:h.get? a=some (jA (.ref f) (.ref y)):=x;show h'.get? a=some (jA (.ref f) (.ref y));exact k a _ (.inl rfl) e
 |ext φ=>obtain⟨p,⟨o,e⟩,st⟩:=x;exact⟨st _ _ p λo q=>k _ _ (.inl rfl) q,⟨o,k _ _ (.inl rfl) e⟩,st⟩
theorem HOk.lt(x:HOk P w H h)(e:H a=some o):a<h.objs.size:=(x a o e).lt
theorem HOk.fresh(x:HOk P w H h)(e:h.objs.size<=a):H a=none:=by
 cases q:H a with
 |none=>rfl
 |some u=>exact ao (bG (x.lt q) e) (dH _)
theorem HOk.kept(x:HOk P w H h)(k:∀b u,h.get? b=some u->h'.get? b=some u):HOk P w H h':=λa o e=>
 (x a o e).stay (λb u _ q=>k b u q) (λ_ q=>q) λ_ _ q=>q
theorem HOk.laid(x:HOk P w H h)(k:∀b u,h.get? b=some u->h'.get? b=some u)(hp:h.objs.size<=a)(new:qL P w (upd H a o) h' a o):HOk P w (upd H a o) h':=λb u e=>by
 have hn:=x.fresh hp;by_cases hb:b=a
 ·subst hb;rw[pK]at e;cases e;exact new
 ·rw[pM hb]at e;exact(x b u e).stay (λc v _ q=>k c v q) (λc q=>by rw[pM (sh q hn)];exact q) λc xs q=>by rw[pM (sh q hn)];exact q
end
def Rd(H:Hp)(a:Addr)(u:HO):Prop:=H a=some u\/∃o,H a=some (.frz o u)
theorem Rd.ok{P:ar}{w:aq}{H:Hp}{h:Heap}{u:HO}(r:Rd H a u)(x:HOk P w H h):qL P w H h a u:=by
 rcases r with r|⟨o,r⟩
 ·exact x a u r
 ·obtain⟨_,q⟩:=x a _ r;exact q
def Mut:Option HO->Prop
 |some (.lst _)=>True
 |some (.dK _)=>True
 |some (.dT _)=>True
 |some (.set _ _)=>True
 |some (.ins _ _ _)=>True
 |some (.ext _)=>True
 |_=>False
section
variable{P:ar}{w:aq}{H:Hp}{h h':Heap}{x e:Addr}{o':HO}
theorem HOk.write(ok:HOk P w H h)(mu:Mut (H x))(he:e=x\/H e=some (.own x))(k:∀b u,b≠e->h.get? b=some u->h'.get? b=some u)(heo:∃u,h'.get? e=some u)
  (new:qL P w (upd H x o') h' x o'):HOk P w (upd H x o') h':=λb u q=>by
 have nown:∀c y,H c=some (.own y)->c≠x:=λc y r z=>by subst z;rw[r]at mu;exact mu
 have ntup:∀c xs,H c=some (.tup xs)->c≠x:=λc xs r z=>by subst z;rw[r]at mu;exact mu
 by_cases hb:b=x
 ·subst hb;rw[pK]at q;cases q;exact new
 ·rw[pM hb]at q;by_cases hbe:b=e
  ·have q':H b=some (.own x):=by
    rcases he with z|z
    ·exact ao (hbe.trans z) hb
    ·rw[hbe];exact z
   rw[q]at q';cases q';obtain⟨v,hv⟩:=heo;exact⟨v,by rw[hbe];exact hv⟩
  ·refine(ok b u q).stay (λc v hc r=>k c v ?_ r) (λc r=>by rw[pM (nown c b r)];exact r) λc xs r=>by rw[pM (ntup c xs r)];exact r
   rcases hc with rfl|hc
   ·exact hbe
   ·rintro rfl;rcases he with z|z
    ·exact nown c b hc z
    ·rw[hc]at z;cases z;exact hb rfl
end
structure Un(fs ex:List Addr)(H H':Hp)(h h':Heap):Prop where
 keep:∀b o,h.get? b=some o->H b=none->b∉fs->b∉ex->h'.get? b=some o
 slot:∀b o,h.get? b=some o->H b=none->b∈fs->b∉ex->∃sl,h'.get? b=some { o with slots:=sl }
 free:∀b o,h.get? b=some o->H b=none->b∉ex->H' b=none
 there:∀b o,h.get? b=some o->b∉ex->∃o',h'.get? b=some o'
 tups:∀b xs,H b=some (.tup xs)->H' b=some (.tup xs)
 frzs:∀b o u,H b=some (.frz o u)->H' b=some (.frz o u)
 tbls:∀b ps,H b=some (.tbl ps)->∃more,H' b=some (.tbl (ps++more))
section
variable{fs fs' ex ex':List Addr}{H H1 H2:Hp}{h h1 h2 h':Heap}{a x e:Addr}{o:HO}
theorem Un.any(u:Un fs ex H H1 h h1){ob:Obj}(q:h.get? b=some ob)(n:H b=none)(hx:b∉ex):∃sl,h1.get? b=some { ob with slots:=sl }:=by
 by_cases hb:b∈fs
 ·exact u.slot b ob q n hb hx
 ·exact⟨ob.slots,u.keep b ob q n hb hx⟩
theorem Un.kept(k:∀b u,h.get? b=some u->h'.get? b=some u):Un fs ex H H h h':=
 ⟨λb ob q _ _ _=>k b ob q,λb ob q _ _ _=>⟨ob.slots,k b ob q⟩,λ_ _ _ n _=>n,λb ob q _=>⟨ob,k b ob q⟩,λ_ _ q=>q,λ_ _ _ q=>q,λ_ ps q=>⟨#[],by rw[q];simp⟩⟩
theorem Un.refl:Un fs ex H H h h:=Un.kept λ_ _ q=>q
theorem Un.laid(k:∀b u,h.get? b=some u->h'.get? b=some u)(hp:h.objs.size<=a)(hn:H a=none):Un fs ex H (upd H a o) h h' where
 keep:=λb u q _ _ _=>k b u q
 slot:=λb u q _ _ _=>⟨u.slots,k b u q⟩
 free:=λb u q n _=>by rw[pM (aI (bG (aD q) hp))];exact n
 there:=λb u q _=>⟨u,k b u q⟩
 tups:=λb xs q=>by rw[pM (sh q hn)];exact q
 frzs:=λb u xs q=>by rw[pM (sh q hn)];exact q
 tbls:=λb ps q=>⟨#[],by rw[pM (sh q hn),q];simp⟩
theorem Un.write(mu:Mut (H x))(he:e=x\/H e=some (.own x))(k:∀b u,b≠e->h.get? b=some u->h'.get? b=some u)(heo:∃u,h'.get? e=some u):Un fs ex H (upd H x o) h h':=by
 have hx:∀b,H b=none->b≠x:=λb n z=>by subst z;rw[n]at mu;exact mu
 have hb:∀b,H b=none->b≠e:=λb n z=>by
  subst z;rcases he with r|r
  ·exact hx b n r
  ·rw[n]at r;cases r
 have hm:∀b u,H b=some u->¬Mut (some u)->b≠x:=λb u q nm z=>by subst z;rw[q]at mu;exact nm mu
 refine⟨λb u q n _ _=>k b u (hb b n) q,λb u q n _ _=>⟨u.slots,k b u (hb b n) q⟩,λb u q n _=>by rw[pM (hx b n)];exact n,λb u q _=>?_,
  λb xs q=>by rw[pM (hm b _ q λz=>z)];exact q,λb u xs q=>by rw[pM (hm b _ q λz=>z)];exact q,λb ps q=>⟨#[],by rw[pM (hm b _ q λz=>z),q];simp⟩⟩
 by_cases hbe:b=e
 ·subst hbe;exact heo
 ·exact⟨u,k b u hbe q⟩
end
def trk(h:Heap)(H:Hp):List Addr:=(aL h.objs.size).filter λa=>(H a).isSome
def Es(h:Heap)(H:Hp):Heap:=W.hideAll h (trk h H)
theorem Jo(h:Heap)(H:Hp):(Es h H).objs.size=h.objs.size:=W.hideAll_size _ _
theorem Kl{h:Heap}{H:Hp}{o:Obj}(e:h.get? b=some o)(n:H b=none):(Es h H).get? b=some o:=
 W.hideAll_get _ e λhm=>by have q:(H b).isSome=true:=(bp.mp hm).2;rw[n]at q;simp at q
theorem Ng{h:Heap}{H:Hp}{o:Obj}(e:(Es h H).get? b=some o):h.get? b=some o/\H b=none:=by
 have e':h.get? b=some o:=W.of_hideAll (trk h H) e;refine⟨e',?_⟩;cases q:H b with
 |none=>rfl
 |some x=>have hm:b∈trk h H:=bp.mpr ⟨bo.mpr (aD e'),by simp[q]⟩;have z:(Es h H).get? b=none:=W.hideAll_none (trk h H) hm;rw[z]at e;cases e
def Nh(g h:Heap)(L:Addr):List (Addr×Obj):=(aL h.objs.size).filterMap λa=>if a=L\/(g.get? a).isSome=true then none else (h.get? a).map λo=>(a,o)
def rest(g h:Heap)(L d:Addr):List (Addr×Obj):=(Nh g h L).filter λp=>decide (p.1≠d)
structure Mod(K:ak)(mg:Str->Option aa)(base:Heap):Prop where
 kin:K.In base
 glob:base.Ns aK mg
 blt:∃mb,base.Ns builtinsNs mb/\∀x:Str,x≠"__name__" -> mb x=cJ x
 nolimit:base.NoLimit
structure Cx where
 prog:ar
 w:aq
 K:ak
 mg:Str->Option aa
 base:Heap
 A:av
 N:List Str
 s₀:ab
 H₀:Hp
 env:Env
 outer:List Env
 stack:List Env
 ex:List Addr
 fn:Str->Bool
 calm:Bool
 pn:List (Addr×Obj)
 xe:aa->ab->Prop
def frs(l:List Env):List Addr:=l.filterMap (·.frame)
abbrev Cx.fs(X:Cx):List Addr:=frs X.outer
def Vis(sc:b8)(x:Str):Prop:=sc.names.lookup x=some .local\/sc.names.lookup x=some .cell\/sc.names.lookup x=some .free
def Loc(sc:b8)(x:Str):Prop:=sc.names.lookup x=some .local\/sc.names.lookup x=some .cell
def Look(env:Env)(h:Heap)(m:Str->Option aa)(x:Str)(u:aa):Prop:=
 (env.kindOf x=some .local/\m x=some u)\/((env.kindOf x=some .cell\/env.kindOf x=some .free)/\∃c,env.cells.lookup x=some c/\h.IsCell c (some u))
structure Cx.Ok(X:Cx):Prop where
 mod:Mod X.K X.mg X.base
 kind:X.env.scope.kind=.function
 glob:X.env.globals=aK
 blt:X.env.builtins=builtinsNs
 above:X.s₀.heap.objs.size<=X.env.locals
 inj:∀x y c,X.env.cells.lookup x=some c->X.env.cells.lookup y=some c->x=y
 has:∀x,(X.env.kindOf x=some .cell\/X.env.kindOf x=some .free)->∃c,X.env.cells.lookup x=some c
 cab:∀x c,X.fn x=true->X.env.cells.lookup x=some c->X.s₀.heap.objs.size<=c
 hd:X.calm=true->X.A.handled=none
 frames:X.A.frames=some X.stack
 stk:X.stack=X.outer\/(X.stack=X.env::X.outer/\X.env.frame=some X.env.locals)
 exf:∀b∈X.ex,b≠X.env.locals/\∀x c,X.env.cells.lookup x=some c->c≠b
 bs:∀b o,X.base.get? b=some o->X.s₀.heap.get? b=some o/\X.H₀ b=none
 bsz:X.base.objs.size<=X.s₀.heap.objs.size
 noex:∀b o,X.base.get? b=some o->b∉X.ex
 exfs:∀b∈X.ex,b∉X.fs
 funs:X.s₀.heap.FunFrames X.base X.outer
 frf:∀b∈X.fs,X.H₀ b=none
structure Inv(X:Cx)(pins:List (Addr×Obj))(σ:List (Option V))(H:Hp)(s:ab):Prop where
 ok:X.Ok
 os:s.os=X.s₀.os
 bare:di s.gens
 base:Un X.fs X.ex X.H₀ H X.s₀.heap s.heap
 loc:∃m,s.heap.Ns X.env.locals m/\∀(i:Nat) (x:Str) (v:V),X.N[i]?=some x->σ[i]?=some (some v)->Vis X.env.scope x->∃u,RelV v u/\Look X.env s.heap m x u
 cell:∀x c,X.env.cells.lookup x=some c->∃v,s.heap.IsCell c v
 free:H X.env.locals=none
 freeC:∀x c,X.env.cells.lookup x=some c->H c=none
 pin:∀p∈X.pn++pins,s.heap.get? p.1=some p.2/\H p.1=none/\p.1≠X.env.locals/\p.1∉X.fs/\∀v,p.2.data≠.cell v
 hok:HOk X.prog X.w H s.heap
 len:σ.length=X.N.length
variable{g':Array dh}{t' i j:Nat}{d':Drawn}{ch:List Addr}{it:Addr}{N:List Str}{x:Str}{M:Model}{E:aa->ab->Prop}{s':ab}
section
variable{X:Cx}{pins:List (Addr×Obj)}{σ:List (Option V)}{H H':Hp}{s:ab}{h':Heap}
theorem Cx.Ok.nofr(ok:X.Ok){o:Obj}(e:X.base.get? b=some o):b∉X.fs:=λhb=>by have:=(ok.funs.mem hb).1;rw[e]at this;cases this
theorem Inv.bs(I:Inv X pins σ H s):∀b o,X.base.get? b=some o->s.heap.get? b=some o/\H b=none:=λb o e=>
 ⟨I.base.keep b o (I.ok.bs b o e).1 (I.ok.bs b o e).2 (I.ok.nofr e) (I.ok.noex b o e),I.base.free b o (I.ok.bs b o e).1 (I.ok.bs b o e).2 (I.ok.noex b o e)⟩
theorem Inv.bk(I:Inv X pins σ H s):∀b o,X.base.get? b=some o->s.heap.get? b=some o:=λb o e=>(I.bs b o e).1
theorem Inv.mod(I:Inv X pins σ H s):Mod X.K X.mg X.base:=I.ok.mod
theorem Inv.kIn(I:Inv X pins σ H s):X.K.In s.heap:=I.ok.mod.kin.keeps I.bk
theorem Inv.fr(I:Inv X pins σ H s):∃m,Fr X.base X.env.locals s.heap m:=
 let ⟨m,hn,_⟩:=I.loc
 ⟨m,hn,I.bk,bc I.ok.bsz I.ok.above⟩
theorem Inv.lt(I:Inv X pins σ H s):X.env.locals<s.heap.objs.size:=let ⟨_,hn,_⟩:=I.loc;hn.lt
theorem Inv.sz(I:Inv X pins σ H s):X.s₀.heap.objs.size<=s.heap.objs.size:=bc I.ok.above (fX I.lt)
theorem Inv.nofs(I:Inv X pins σ H s)(h:s.heap.objs.size<=a):a∉X.fs:=λhb=>by obtain⟨_,o,ho,_⟩:=I.ok.funs.mem hb;exact ao (bG (aD ho) (bc I.sz h)) (dH _)
theorem Inv.cne(I:Inv X pins σ H s):∀x c,X.env.cells.lookup x=some c->c≠X.env.locals:=λx c e z=>by obtain⟨v,o,ho,hd⟩:=I.cell x c e;obtain⟨m,⟨o',es,ep,ho',hd',_⟩,_⟩:=I.loc;rw[z,ho']at ho;cases ho;rw[hd']at hd;cases hd
theorem Inv.funs(I:Inv X pins σ H s):s.heap.FunFrames X.base X.outer:=by
 have all:∀(l:List Env),(∀b∈frs l,b∈X.fs)->X.s₀.heap.FunFrames X.base l->s.heap.FunFrames X.base l:=by
  intro l
  induction l with
  |nil=>intro _ _;trivial
  |cons env r ih=>intro hs hl;obtain⟨hk,⟨L,o,hf,hn,ho,hd⟩,hr⟩:=hl;have hL:L∈X.fs:=hs L (by unfold frs;rw[cX,hf];exact aP);obtain⟨sl,e⟩:=I.base.slot L o ho (I.ok.frf L hL) hL λz=>I.ok.exfs L z hL;exact⟨hk,⟨L,_,hf,hn,e,hd⟩,ih (λb hb=>hs b (by unfold frs;rw[cX,hf];exact aO _ hb)) hr⟩
 exact all X.outer (λ_ hb=>hb) I.ok.funs
theorem Inv.stack(I:Inv X pins σ H s):s.heap.FunFrames X.base X.stack:=by
 rcases I.ok.stk with e|⟨e,hf⟩
 ·rw[e];exact I.funs
 ·rw[e];obtain⟨m,hn,_⟩:=I.loc;refine .cons (by rw[I.ok.kind];decide) hf hn ?_ I.funs;exact Heap.get?_none_of_le (bc I.ok.bsz I.ok.above)
theorem Inv.stkSub(I:Inv X pins σ H s):∀b∈frs X.stack,b∈X.env.locals::X.fs:=λb hb=>by
 rcases I.ok.stk with e|⟨e,hf⟩
 ·rw[e]at hb;exact aO _ hb
 ·rw[e]at hb;unfold frs at hb;rw[cX,hf]at hb;exact hb
theorem Inv.stkFree(I:Inv X pins σ H s):∀b∈frs X.stack,H b=none:=λb hb=>by
 rcases aH.mp (I.stkSub b hb)with e|hb
 ·rw[e];exact I.free
 ·obtain⟨_,o,ho,_⟩:=I.ok.funs.mem hb;exact I.base.free b o ho (I.ok.frf b hb) λz=>I.ok.exfs b z hb
theorem Inv.step(I:Inv X pins σ H s)
  (hch:∀b∈ch,(b∈X.ex\/X.s₀.heap.objs.size<=b)/\b≠X.env.locals/\(∀x c,X.env.cells.lookup x=some c->c≠b)/\∀p∈X.pn++pins,p.1≠b)
  (keep:∀b o,b≠X.env.locals->b∉X.fs->b∉ch->s.heap.get? b=some o->H b=none->h'.get? b=some o)
  (slot:∀b o,b≠X.env.locals->b∈X.fs->b∉ch->s.heap.get? b=some o->H b=none->∃sl,h'.get? b=some { o with slots:=sl }) (free:∀b o,b∉ch->s.heap.get? b=some o->H b=none->H' b=none)
  (there:∀b o,b∉ch->s.heap.get? b=some o->∃o',h'.get? b=some o')
  (tups:∀b xs,H b=some (.tup xs)->H' b=some (.tup xs)) (frzs:∀b o u,H b=some (.frz o u)->H' b=some (.frz o u)) (tbls:∀b ps,H b=some (.tbl ps)->∃more,H' b=some (.tbl (ps++more)))
  (ns:∀m,s.heap.Ns X.env.locals m->h'.Ns X.env.locals m) (hok:HOk X.prog X.w H' h') (hg:di g'):
  Inv X pins σ H' { s with heap:=h',gens:=g',drawn:=d',toks:=t' }:=by
 have neL:∀b o,X.s₀.heap.get? b=some o->b≠X.env.locals:=λb o e=>aI (bG (aD e) I.ok.above);have neC:∀b o,X.s₀.heap.get? b=some o->b∉X.ex->b∉ch:=λb o e hx hb=>by
  rcases(hch b hb).1 with z|z
  ·exact hx z
  ·exact ao (bG (aD e) z) (dH _)
 have cellK:∀x c,X.env.cells.lookup x=some c->∀v,s.heap.IsCell c v->h'.IsCell c v:=λx c e v ⟨o,ho,hd⟩=>by
  have nch:c∉ch:=λz=>(hch c z).2.2.1 x c e rfl;by_cases hc:c∈X.fs
  ·obtain⟨sl,q⟩:=slot c o (I.cne x c e) hc nch ho (I.freeC x c e);exact⟨_,q,hd⟩
  ·exact⟨o,keep c o (I.cne x c e) hc nch ho (I.freeC x c e),hd⟩
 refine⟨I.ok,I.os,hg,⟨λb o e n hb hx=>?_,λb o e n hb hx=>?_,λb o e n hx=>?_,λb o e hx=>?_,λb xs e=>tups b xs (I.base.tups b xs e),λb o xs e=>frzs b o xs (I.base.frzs b o xs e),λb ps e=>?_⟩,?_,λx c e=>?_,?_,λx c e=>?_,λp hp=>?_,hok,I.len⟩
 ·exact keep b o (neL b o e) hb (neC b o e hx) (I.base.keep b o e n hb hx) (I.base.free b o e n hx)
 ·obtain⟨sl,e1⟩:=I.base.slot b o e n hb hx;obtain⟨sl',e2⟩:=slot b _ (neL b o e) hb (neC b o e hx) e1 (I.base.free b o e n hx);exact⟨sl',e2⟩
 ·obtain⟨o',e1⟩:=I.base.there b o e hx;exact free b o' (neC b o e hx) e1 (I.base.free b o e n hx)
 ·obtain⟨o',e1⟩:=I.base.there b o e hx;exact there b o' (neC b o e hx) e1
 ·obtain⟨m1,e1⟩:=I.base.tbls b ps e;obtain⟨m2,e2⟩:=tbls b _ e1;exact⟨m1++m2,by rw[e2,Array.append_assoc]⟩
 ·obtain⟨m,hn,hl⟩:=I.loc;refine⟨m,ns m hn,λi x v e1 e2 e3=>?_⟩;obtain⟨u,r,l⟩:=hl i x v e1 e2 e3;refine⟨u,r,?_⟩;rcases l with l|⟨k,c,e,z⟩
  ·exact .inl l
  ·exact .inr ⟨k,c,e,cellK x c e _ z⟩
 ·obtain⟨v,z⟩:=I.cell x c e;exact⟨v,cellK x c e v z⟩
 ·obtain⟨m,⟨o,_,_,ho,_⟩,_⟩:=I.loc;exact free _ o (λz=>(hch _ z).2.1 rfl) ho I.free
 ·obtain⟨v,o,ho,hd⟩:=I.cell x c e;exact free c o (λz=>(hch c z).2.2.1 x c e rfl) ho (I.freeC x c e)
 ·obtain⟨e,n,ne,nf,d⟩:=I.pin p hp;have nch:p.1∉ch:=λz=>(hch p.1 z).2.2.2 p hp rfl;exact⟨keep p.1 p.2 ne nf nch e n,free p.1 p.2 nch e n,ne,nf,d⟩
theorem Inv.un(I:Inv X pins σ H s)(u:Un X.fs [] H H' s.heap h')(hok:HOk X.prog X.w H' h'):Inv X pins σ H' { s with heap:=h',toks:=t' }:=by
 obtain⟨m,⟨o,es,ep,ho,r⟩,_⟩:=id I.loc;obtain⟨sl,hL⟩:=u.any ho I.free (by simp);exact I.step (g':=s.gens) (d':=s.drawn) (ch:=[]) (λ_ z=>nomatch z) (λb o _ hb _ e n=>u.keep b o e n hb (by simp)) (λb o _ hb _ e n=>u.slot b o e n hb (by simp)) (λb o _ e n=>u.free b o e n (by simp)) (λb o _ e=>u.there b o e (by simp)) u.tups u.frzs u.tbls (λm' hm=>by
  obtain⟨o',es',ep',ho',r'⟩:=hm;rw[ho]at ho';cases ho';exact⟨_,es',ep',hL,r'⟩) hok I.bare
theorem Inv.call(I:Inv X pins σ H s)(u:Un (frs X.stack) ch H H' s.heap h')(hok:HOk X.prog X.w H' h')(hg:di g')
  (hch:∀b∈ch,(b∈X.ex\/X.s₀.heap.objs.size<=b)/\b≠X.env.locals/\(∀x c,X.env.cells.lookup x=some c->c≠b)/\∀p∈X.pn++pins,p.1≠b):
  Inv X pins σ H' { s with heap:=h',gens:=g',drawn:=d',toks:=t' }:=by
 obtain⟨m,⟨o,es,ep,ho,r⟩,_⟩:=id I.loc;obtain⟨sl,hL⟩:=u.any ho I.free λz=>(hch _ z).2.1 rfl;exact I.step (ch:=ch) hch (λb o hL hb hc e n=>u.keep b o e n (λz=>(aH.mp (I.stkSub b z)).elim hL hb) hc) (λb o _ _ hc e n=>u.any e n hc) (λb o hc e n=>u.free b o e n hc) (λb o hc e=>u.there b o e hc) u.tups u.frzs u.tbls (λm' hm=>by
  obtain⟨o',es',ep',ho',r'⟩:=hm;rw[ho]at ho';cases ho';exact⟨_,es',ep',hL,r'⟩) hok hg
theorem Inv.turned(I:Inv X pins σ H s)(k:∀b o,b≠it->s.heap.get? b=some o->h'.get? b=some o)(hn:H it=none)(hL:it≠X.env.locals)
  (h1:it∈X.ex\/X.s₀.heap.objs.size<=it) (h2:∀x c,X.env.cells.lookup x=some c->c≠it) (h3:∀p∈X.pn++pins,p.1≠it):Inv X pins σ H { s with heap:=h',toks:=t' }:=by
 have nit:∀b u,H b=some u->b≠it:=λb u e z=>by rw[z,hn]at e;cases e
 refine I.step (g':=s.gens) (d':=s.drawn) (ch:=[it]) (λb hb=>?_) (λb o _ _ hc e _=>k b o (λz=>hc (by simp[z])) e) (λb o _ _ hc e _=>⟨o.slots,k b o (λz=>hc (by simp[z])) e⟩) (λ_ _ _ _ n=>n)
  (λb o hc e=>⟨o,k b o (λz=>hc (by simp[z])) e⟩) (λ_ _ e=>e) (λ_ _ _ e=>e) (λb ps e=>⟨#[],by rw[e];simp⟩) (λm hm=>?_) (λb u e=>?_) I.bare
 ·have e:b=it:=by simpa using hb
  subst e;exact⟨h1,hL,h2,h3⟩
 ·obtain⟨o,es,ep,ho,r⟩:=hm;exact⟨o,es,ep,k _ o (cQ hL) ho,r⟩
 ·refine(I.hok b u e).stay (λc v hc q=>k c v ?_ q) (λ_ q=>q) λ_ _ q=>q;rcases hc with z|z
  ·rw[z];exact nit b u e
  ·exact nit c _ z
theorem Inv.tok(I:Inv X pins σ H s)(t:Nat):Inv X pins σ H { s with toks:=t }:=I.un (h':=s.heap) (t':=t) Un.refl I.hok
theorem Inv.kept(I:Inv X pins σ H s)(k:∀b u,s.heap.get? b=some u->h'.get? b=some u):Inv X pins σ H { s with heap:=h',toks:=t' }:=I.un (Un.kept k) (I.hok.kept k)
theorem Inv.laid(I:Inv X pins σ H s)(k:∀b u,s.heap.get? b=some u->h'.get? b=some u)(hp:s.heap.objs.size<=a)(new:qL X.prog X.w (upd H a o) h' a o):
  Inv X pins σ (upd H a o) { s with heap:=h',toks:=t' }:=I.un (Un.laid k hp (I.hok.fresh hp)) (I.hok.laid k hp new)
theorem Inv.write{x e:Addr}(I:Inv X pins σ H s)(mu:Mut (H x))(he:e=x\/H e=some (.own x))(k:∀b u,b≠e->s.heap.get? b=some u->h'.get? b=some u)(heo:∃u,h'.get? e=some u)
  (new:qL X.prog X.w (upd H x o) h' x o):Inv X pins σ (upd H x o) { s with heap:=h',toks:=t' }:=I.un (Un.write mu he k heo) (I.hok.write mu he k heo new)
theorem Inv.weak{σ':List (Option V)}(I:Inv X pins σ H s)(hl:σ'.length=σ.length)(w:∀(i:Nat) v,σ'[i]?=some (some v)->σ[i]?=some (some v)):Inv X pins σ' H s:=
 ⟨I.ok,I.os,I.bare,I.base,let ⟨m,hn,hl'⟩:=I.loc;⟨m,hn,λi x v e1 e2 e3=>hl' i x v e1 (w i v e2) e3⟩,I.cell,I.free,I.freeC,I.pin,I.hok,hl.trans I.len⟩
theorem Inv.pins_of{pins':List (Addr×Obj)}(I:Inv X pins σ H s)(h:∀p∈pins',s.heap.get? p.1=some p.2/\H p.1=none/\p.1≠X.env.locals/\p.1∉X.fs/\∀v,p.2.data≠.cell v):Inv X pins' σ H s:=
 ⟨I.ok,I.os,I.bare,I.base,I.loc,I.cell,I.free,I.freeC,λp hp=>(aQ.mp hp).elim (λz=>I.pin p (bg _ z)) (h p),I.hok,I.len⟩
theorem Fi(hN:N.Nodup)(a:N[i]?=some x)(b:N[j]?=some x):i=j:=by obtain⟨h1,e1⟩:=bE.mp a;obtain⟨h2,e2⟩:=bE.mp b;exact(iZ hN).mp (e1.trans e2.symm)
theorem Jp{A:av}{v:V}{Q:Unit->ab->Prop}(I:Inv X pins σ H s)(hN:X.N.Nodup)(hi:X.N[i]?=some x)(hx:Loc X.env.scope x)(r:RelV v u)
  (h:∀s',Inv X pins (σ.set i (some v)) H s'->(∃a,cu a s.heap s'.heap/\(a=X.env.locals\/X.env.cells.lookup x=some a))->Q () s') (hf:X.fn x=true\/X.env.scope.names.lookup x=some .local:=by first|exact .inl rfl|exact .inr rfl|assumption):ag M A (storeName X.env x u) Q E s:=by
 obtain⟨m,hn,hl⟩:=id I.loc;have hcls:(X.env.scope.kind==.class||(X.env.scope.kind==.module&&X.env.locals != X.env.globals))=false:=by rw[I.ok.kind];rfl
 have hiσ:i<σ.length:=by rw[I.len];exact(bE.mp hi).1
 have cne:=I.cne;have tracked:∀{a:Addr} {h':Heap},(∃o,s.heap.get? a=some o/\H a=none)->cu a s.heap h'->HOk X.prog X.w H h':=λ{a h'} ha hs b ob e=>by
  obtain⟨_,_,hfree⟩:=ha;refine(I.hok b ob e).stay (λc w' hc q=>(hs.2 c ?_).trans q) (λ_ q=>q) λ_ _ q=>q;rintro rfl;rcases hc with rfl|hc
  ·rw[hfree]at e;cases e
  ·rw[hfree]at hc;cases hc
 rcases hx with hk|hk
 ·refine wpAny_storeName_local hk hn (λh' hn' hs=>?_) hcls;obtain⟨oL,_,_,hoL,_⟩:=id hn;refine h _ ⟨I.ok,I.os,I.bare,⟨λb o e n hb hx=>?_,λb o e n hb hx=>?_,I.base.free,λb o e hx=>?_,I.base.tups,I.base.frzs,I.base.tbls⟩,⟨_,hn',λj y v' e1 e2 e3=>?_⟩,λy c e=>?_,I.free,I.freeC,λp hp=>?_,tracked ⟨oL,hoL,I.free⟩ hs,by simpa using I.len⟩ ⟨_,hs,.inl rfl⟩
  ·exact(hs.2 b (aI (bG (aD e) I.ok.above))).trans (I.base.keep b o e n hb hx)
  ·obtain⟨sl,e1⟩:=I.base.slot b o e n hb hx;exact⟨sl,(hs.2 b (aI (bG (aD e) I.ok.above))).trans e1⟩
  ·obtain⟨o',e1⟩:=I.base.there b o e hx;exact⟨o',(hs.2 b (aI (bG (aD e) I.ok.above))).trans e1⟩
  ·by_cases hj:j=i
   ·subst hj;rw[hi]at e1;cases e1;rw[gE hiσ]at e2;cases e2;exact⟨u,r,.inl ⟨hk,by simp⟩⟩
   ·rw[iC (cQ hj)]at e2;obtain⟨u',r',q⟩:=hl j y v' e1 e2 e3;refine⟨u',r',?_⟩;rcases q with ⟨k,e⟩|⟨k,c,e,z⟩
    ·refine .inl ⟨k,?_⟩;have:y≠x:=λe=>hj (Fi hN e1 (e▸hi));simp[this,e]
    ·exact .inr ⟨k,c,e,z.sameBut hs (cne y c e)⟩
  ·obtain⟨w',z⟩:=I.cell y c e;exact⟨w',z.sameBut hs (cne y c e)⟩
  ·obtain⟨e,n,ne,nf,d⟩:=I.pin p hp;exact⟨(hs.2 p.1 ne).trans e,n,ne,nf,d⟩
 ·have hfn:X.fn x=true:=by
   rcases hf with z|z
   ·exact z
   ·rw[z]at hk;cases hk
  obtain⟨c,hc⟩:=I.ok.has x (.inl hk);obtain⟨w',z⟩:=I.cell x c hc;refine wpAny_storeName_cell I.ok.kind hk hc z (λh' hc' hs=>?_);obtain⟨oc,hoc,hocd⟩:=id z;refine h { s with heap:=h' } ⟨I.ok,I.os,I.bare,⟨λb o e n hb hx=>?_,λb o e n hb hx=>?_,I.base.free,λb o e hx=>?_,I.base.tups,I.base.frzs,I.base.tbls⟩,⟨m,hn.sameBut hs (cQ (cne x c hc)),λj y v' e1 e2 e3=>?_⟩,λy c' e=>?_,I.free,I.freeC,λp hp=>?_,tracked ⟨oc,hoc,I.freeC x c hc⟩ hs,by simpa using I.len⟩ ⟨c,hs,.inr hc⟩
  ·exact(hs.2 b (aI (bG (aD e) (I.ok.cab x c hfn hc)))).trans (I.base.keep b o e n hb hx)
  ·obtain⟨sl,e1⟩:=I.base.slot b o e n hb hx;exact⟨sl,(hs.2 b (aI (bG (aD e) (I.ok.cab x c hfn hc)))).trans e1⟩
  ·obtain⟨o',e1⟩:=I.base.there b o e hx;exact⟨o',(hs.2 b (aI (bG (aD e) (I.ok.cab x c hfn hc)))).trans e1⟩
  ·by_cases hj:j=i
   ·subst hj;rw[hi]at e1;cases e1;rw[gE hiσ]at e2;cases e2;exact⟨u,r,.inr ⟨.inl hk,c,hc,hc'⟩⟩
   ·rw[iC (cQ hj)]at e2;obtain⟨u',r',q⟩:=hl j y v' e1 e2 e3;refine⟨u',r',?_⟩;rcases q with q|⟨k,c',e,z'⟩
    ·exact .inl q
    ·refine .inr ⟨k,c',e,z'.sameBut hs ?_⟩;rintro rfl;exact hj (Fi hN e1 (I.ok.inj _ _ _ e hc▸hi))
  ·by_cases hcc:c'=c
   ·subst hcc;exact⟨_,hc'⟩
   ·obtain⟨w2,z2⟩:=I.cell y c' e;exact⟨w2,z2.sameBut hs hcc⟩
  ·obtain⟨e,n,ne,nf,d⟩:=I.pin p hp;refine⟨(hs.2 p.1 ?_).trans e,n,ne,nf,d⟩;intro q;rw[q,hoc]at e;have q':oc=p.2:=bN e;exact d w' (by rw[<-q'];exact hocd)
theorem Fj{A:av}{v:V}{Q:Unit->ab->Prop}(I:Inv X pins σ H s)(hN:X.N.Nodup)(hi:X.N[i]?=some x)(hx:Loc X.env.scope x)(r:RelV v u)
  (h:∀s',Inv X pins (σ.set i (some v)) H s'->Q () s') (hf:X.fn x=true\/X.env.scope.names.lookup x=some .local:=by first|exact .inl rfl|exact .inr rfl|assumption):ag M A (storeName X.env x u) Q E s:=
 Jp I hN hi hx r (λs' I' _=>h s' I') hf
theorem Inv.call'(I:Inv X pins σ H s)(ho:s'.os=s.os)(u:Un (frs X.stack) ch H H' s.heap s'.heap)(hok:HOk X.prog X.w H' s'.heap)(hg:di s'.gens)
  (hch:∀b∈ch,(b∈X.ex\/X.s₀.heap.objs.size<=b)/\b≠X.env.locals/\(∀x c,X.env.cells.lookup x=some c->c≠b)/\∀p∈X.pn++pins,p.1≠b):Inv X pins σ H' s':=by
 obtain⟨h',g',d',t',o'⟩:=s';have e:o'=s.os:=ho;subst e;exact I.call (g':=g') (t':=t') (d':=d') u hok hg hch
end
abbrev XK:=aa->Option Addr->Hp->Prop
abbrev St:=List (Option V)
abbrev VK:=V->Hp->Prop
abbrev TE:=St->Hp->VK->Prop
abbrev TT:=St->Hp->(Bool->Hp->Prop)->Prop
abbrev TA:=St->Hp->(List V->Hp->Prop)->Prop
structure Ends where
 nx:St->Hp->Prop
 rt:VK
 bk:St->Hp->Prop:=λ_ _=>False
 ct:St->Hp->Prop:=λ_ _=>False
abbrev TS:=Ends->St->Hp->Prop
def EP(X:Cx)(pins:List (Addr×Obj))(σ:St)(Q:VK)(u:aa)(s':ab):Prop:=∃v H',Inv X pins σ H' s'/\RelV v u/\Q v H'
def TP(X:Cx)(pins:List (Addr×Obj))(σ:St)(Q:Bool->Hp->Prop)(b:Bool)(s':ab):Prop:=∃H',Inv X pins σ H' s'/\Q b H'
def AP(X:Cx)(pins:List (Addr×Obj))(σ:St)(Q:List V->Hp->Prop)(us:List aa)(s':ab):Prop:=∃vs H',Inv X pins σ H' s'/\Vals vs us/\Q vs H'
def SP(X:Cx)(pins:List (Addr×Obj))(D:Ends)(f:Flow)(s':ab):Prop:=
 match f with
 |.next=>∃σ' H',Inv X pins σ' H' s'/\D.nx σ' H'
 |.brk=>∃σ' H',Inv X pins σ' H' s'/\D.bk σ' H'
 |.cont=>∃σ' H',Inv X pins σ' H' s'/\D.ct σ' H'
 |.ret u=>∃v σ' H',Inv X pins σ' H' s'/\RelV v u/\D.rt v H'
def PE(X:Cx)(e:Expr)(t:TE):Prop:=
 ∀(pins:List (Addr×Obj)) (s:ab) (σ:St) (H:Hp) (Q:VK),Inv X pins σ H s->t σ H Q->ag (model X.prog X.w) X.A (eval e X.env) (EP X pins σ Q) X.xe s
def PT(X:Cx)(e:Expr)(t:TT):Prop:=
 ∀(pins:List (Addr×Obj)) (s:ab) (σ:St) (H:Hp) (Q:Bool->Hp->Prop),Inv X pins σ H s->t σ H Q->ag (model X.prog X.w) X.A (isTrue e X.env (eval e X.env)) (TP X pins σ Q) X.xe s
def PW(X:Cx)(e:Expr)(t:TT):Prop:=
 ∀(whole:Sem aa) (pins:List (Addr×Obj)) (s:ab) (σ:St) (H:Hp) (Q:Bool->Hp->Prop),Inv X pins σ H s->t σ H Q->ag (model X.prog X.w) X.A (isTrue e X.env whole) (TP X pins σ Q) X.xe s
variable{X:Cx}{e:Expr}
theorem PW.pt{t:TT}(h:PW X e t):PT X e t:=h _
def PA(X:Cx)(es:List Expr)(t:TA):Prop:=
 ∀(pos:Pos) (pins:List (Addr×Obj)) (s:ab) (σ:St) (H:Hp) (Q:List V->Hp->Prop),Inv X pins σ H s->t σ H Q->ag (model X.prog X.w) X.A (spliced (ba pos (aw es X.env))) (AP X pins σ Q) X.xe s
def PS(X:Cx)(st:Stmt)(t:TS):Prop:=
 ∀(pins:List (Addr×Obj)) (s:ab) (σ:St) (H:Hp) (D:Ends),Inv X pins σ H s->t D σ H->ag (model X.prog X.w) X.A (exec st X.env) (SP X pins D) X.xe s
def PSs(X:Cx)(st:List Stmt)(t:TS):Prop:=
 ∀(pins:List (Addr×Obj)) (s:ab) (σ:St) (H:Hp) (D:Ends),Inv X pins σ H s->t D σ H->ag (model X.prog X.w) X.A (execs st X.env) (SP X pins D) X.xe s
theorem thn{α:Type}{t:Sem α}{Q Q':α->ab->Prop}{A:av}{s:ab}(h:ag M A t Q E s)(hQ:∀a s,Q a s->Q' a s):ag M A t Q' E s:=bH h hQ λ_ _ x=>x
variable{pins:List (Addr×Obj)}{σ:St}{pos:Pos}{Q:aa->ab->Prop}{op:eE}{t:TE}{c:Expr}
section
variable{X:Cx}
theorem bin{a b:Expr}{ta tb:TE}(ha:PE X a ta)(hb:PE X b tb){s:ab}{H:Hp}{R:V->V->Hp->Prop}(I:Inv X pins σ H s)(h:ta σ H λx H1=>tb σ H1 λy H2=>R x y H2)
  {α:Type} {Q:α->ab->Prop} {f:aa->aa->Sem α}
  (hf:∀v u s2 x y H2,Inv X pins σ H2 s2->RelV x v->RelV y u->R x y H2->ag (model X.prog X.w) X.A (f v u) Q X.xe s2):
  ag (model X.prog X.w) X.A (eval a X.env) (λv s₁=>ag (model X.prog X.w) X.A (eval b X.env) (λu s₂=>ag (model X.prog X.w) X.A (f v u) Q X.xe s₂) X.xe s₁) X.xe s:=by
 refine thn (ha pins s σ H _ I h) λv s1 zz=>?_;obtain⟨x,H1,I1,r1,q1⟩:=zz;refine thn (hb pins s1 σ H1 _ I1 q1) λu s2 zz=>?_;obtain⟨y,H2,I2,r2,q2⟩:=zz;exact hf v u s2 x y H2 I2 r1 r2 q2
def wy(i:Nat):TE:=λσ H Q=>∃v,σ[i]?=some (some v)/\Q v H
def tC(v:V):TE:=λ_ H Q=>Q v H
theorem PZ(hN:X.N[i]?=some x)(hv:Vis X.env.scope x)(hd:(x==("__debug__" : Str))=false:=by decide)(hcd:(x==("__classdict__" : Str))=false:=by decide):PE X (.Name x pos) (wy i):=by
 intro pins s σ H Q I h;obtain⟨v,e,h⟩:=h;obtain⟨m,hn,hl⟩:=I.loc;obtain⟨u,r,l⟩:=hl i x v hN e hv;have fin:EP X pins σ Q u s:=⟨v,H,I,r,h⟩;rcases l with ⟨hk,hm⟩|⟨hk,c,hc,hcell⟩
 ·exact jE (wpAny_loadName_local I.ok.kind hk hn hm fin) hd
 ·rcases hk with hk|hk
  ·exact jE (wpAny_loadName_cell I.ok.kind hk hc hcell fin) hd
  ·exact jE (wpAny_loadName_free I.ok.kind hk hc hcell fin hcd) hd
theorem Et{i j pos}:PE X (.Constant (.int i) j pos) (tC (.int i)):=λ_ _ _ H _ I h=>wpAny_Constant_int ⟨.int i,H,I.tok _,⟨_,rfl⟩,h⟩
theorem TZ{b j pos}:PE X (.Constant (.bool b) j pos) (tC (.bl b)):=λ_ _ _ H _ I h=>Constant_bool ⟨.bl b,H,I,rfl,h⟩
theorem P1{j pos}:PE X (.Constant .none j pos) (tC .non):=λ_ _ _ H _ I h=>Constant_none ⟨.non,H,I,rfl,h⟩
theorem P2{x j pos}:PE X (.Constant (.str x) j pos) (tC (.str x)):=λ_ _ _ H _ I h=>Calls.Constant_str ⟨.str x,H,I.tok _,⟨_,rfl⟩,h⟩
def Gl(X:Cx)(x:Str):Prop:=X.env.kindOf x=some .globalImplicit
theorem zB{s:ab}{H:Hp}(I:Inv X pins σ H s)(hg:Gl X x)(hm:X.mg x=some u)(h:Q u s)
  (hd:(x==("__debug__" : Str))=false:=by decide):ag (model X.prog X.w) X.A (eval (.Name x pos) X.env) Q E s:=
 jQ I.ok.kind hg (Calls.loadGlobal_global (by rw[I.ok.glob];exact I.mod.glob.keeps I.bk) hm h) hd
theorem xU{s:ab}{H:Hp}(I:Inv X pins σ H s)(hg:Gl X x)(hm:X.mg x=none)(hv:cJ x=some u)(h:Q u s)
  (hn:x≠"__name__" := by decide) (hd:(x==("__debug__" : Str))=false:=by decide):ag (model X.prog X.w) X.A (eval (.Name x pos) X.env) Q E s:=by
 obtain⟨mb,h1,h2⟩:=I.mod.blt;exact jQ I.ok.kind hg (Calls.loadGlobal_builtin (by rw[I.ok.glob];exact I.mod.glob.keeps I.bk) hm (by rw[I.ok.blt];exact h1.keeps I.bk) ((h2 x hn).trans hv) h) hd
theorem BD{v:V}(hg:Gl X x)(hm:X.mg x=some u)(r:RelV v u)(hd:(x==("__debug__" : Str))=false:=by decide):PE X (.Name x pos) (tC v):=
 λ_ _ _ H _ I h=>zB I hg hm ⟨v,H,I,r,h⟩ hd
theorem Ni{v:V}(hg:Gl X x)(hm:X.mg x=none)(hv:cJ x=some u)(r:RelV v u)(hn:x≠"__name__" := by decide)(hd:(x==("__debug__" : Str))=false:=by decide):PE X (.Name x pos) (tC v):=
 λ_ _ _ H _ I h=>xU I hg hm hv ⟨v,H,I,r,h⟩ hn hd
variable{a b:Expr}{ta tb:TE}{pos:Pos}
def PC(X:Cx)(op:eE)(a b:Expr)(t:TE):Prop:=
 ∀(pins:List (Addr×Obj)) (s:ab) (σ:St) (H:Hp) (Q:VK),Inv X pins σ H s->t σ H Q->
  ag (model X.prog X.w) X.A (eval a X.env) (λv s₁=>ag (model X.prog X.w) X.A (eval b X.env) (λu s₂=>ag (model X.prog X.w) X.A (aV op v u) (EP X pins σ Q) X.xe s₂) X.xe s₁) X.xe s
def tB(t:TE):TT:=λσ H Q=>t σ H λx H1=>∃c,x=.bl c/\Q c H1
theorem VF(h:PC X op a b t)(h1:dZ op b=false:=by first|exact nobehind _ (by decide) (by decide)|rfl):PT X (.Compare a [op] [b] pos) (tB t):=by intro pins s σ H Q I hw;refine j5 (thn (h pins s σ H _ I hw) λv s1 h1=>thn h1 λu s2 h2=>thn h2 λc s3 zz=>?_) h1;obtain⟨x,H1,I1,r1,q1⟩:=zz;obtain⟨d,rfl,q⟩:=q1;cases r1;exact cq ⟨H1,I1,q⟩
theorem P3(h:PE X e t)(he:∀whole,isTrue e X.env whole=(do let v<-whole;standAt e.pos;holding [v] (truthy v)):=by intro _;rfl):PT X e (tB t):=by intro pins s σ H Q I hw;refine isTrue_plain (thn (h pins s σ H _ I hw) λv s1 zz=>?_) (he _);obtain⟨x,H1,I1,r1,q1⟩:=zz;obtain⟨d,rfl,q⟩:=q1;cases r1;exact cq ⟨H1,I1,q⟩
variable{tA tB':TT}{rest:List Expr}
def T2(t u:TT):TT:=λσ H Q=>t σ H λc H1=>if c=true then u σ H1 Q else Q false H1
def tOr(t u:TT):TT:=λσ H Q=>t σ H λc H1=>if c=true then Q true H1 else u σ H1 Q
def VG(t:TT):TT:=λσ H Q=>t σ H λc H1=>Q (!c) H1
theorem Nj(ha:PT X a tA):PW X (.BoolOp .And [a] pos) tA:=by
 intro wh pins s σ H Q I h;refine isTrue_and (thn (ha pins s σ H Q I h) λc s1 e=>?_);cases c with
 |true=>exact isTrue_and_nil e
 |false=>exact e
theorem P4(ha:PT X a tA):PW X (.BoolOp .Or [a] pos) tA:=by
 intro wh pins s σ H Q I h;refine isTrue_or (thn (ha pins s σ H Q I h) λc s1 e=>?_);cases c with
 |false=>exact isTrue_or_nil e
 |true=>exact e
theorem P5(ha:PT X a tA)(hb:PW X (.BoolOp .And (b::rest) pos) tB'):PW X (.BoolOp .And (a::b::rest) pos) (T2 tA tB'):=by
 intro wh pins s σ H Q I h;refine isTrue_and (thn (ha pins s σ H _ I h) λc s1 zz=>?_);obtain⟨H1,I1,q1⟩:=zz;cases c with
 |true=>exact hb wh pins s1 σ H1 Q I1 q1
 |false=>exact⟨H1,I1,q1⟩
theorem T4(ha:PT X a tA)(hb:PW X (.BoolOp .Or (b::rest) pos) tB'):PW X (.BoolOp .Or (a::b::rest) pos) (tOr tA tB'):=by
 intro wh pins s σ H Q I h;refine isTrue_or (thn (ha pins s σ H _ I h) λc s1 zz=>?_);obtain⟨H1,I1,q1⟩:=zz;cases c with
 |true=>exact⟨H1,I1,q1⟩
 |false=>exact hb wh pins s1 σ H1 Q I1 q1
theorem P6(ha:PT X a tA):PT X (.UnaryOp .Not a pos) (VG tA):=by intro pins s σ H Q I h;exact isTrue_not (ha pins s σ H (λc H1=>Q (!c) H1) I h)
def T5(ta tb:TE):TE:=λσ H Q=>ta σ H λx H1=>∃c,x=.bl c/\if c=true then tb σ H1 Q else Q (.bl false) H1
def VH(ta tb:TE):TE:=λσ H Q=>ta σ H λx H1=>∃c,x=.bl c/\if c=true then Q (.bl true) H1 else tb σ H1 Q
def T6(ta:TE):TE:=λσ H Q=>ta σ H λx H1=>∃c,x=.bl c/\Q (.bl (!c)) H1
theorem P7{op}(h:PE X a t):PE X (.BoolOp op [a] pos) t:=λpins s σ H Q I hw=>BoolOp_one (h pins s σ H Q I hw)
theorem P8(ha:PE X a ta)(hb:PE X (.BoolOp .And (b::rest) pos) tb):PE X (.BoolOp .And (a::b::rest) pos) (T5 ta tb):=by
 intro pins s σ H Q I h;refine BoolOp_and (thn (ha pins s σ H _ I h) λv s1 zz=>?_);obtain⟨x,H1,I1,r1,q1⟩:=zz;obtain⟨c,rfl,q1⟩:=q1;cases r1;refine cq ?_;cases c with
 |true=>exact hb pins s1 σ H1 Q I1 q1
 |false=>exact⟨.bl false,H1,I1,rfl,q1⟩
theorem T7(ha:PE X a ta)(hb:PE X (.BoolOp .Or (b::rest) pos) tb):PE X (.BoolOp .Or (a::b::rest) pos) (VH ta tb):=by
 intro pins s σ H Q I h;refine BoolOp_or (thn (ha pins s σ H _ I h) λv s1 zz=>?_);obtain⟨x,H1,I1,r1,q1⟩:=zz;obtain⟨c,rfl,q1⟩:=q1;cases r1;refine cq ?_;cases c with
 |false=>exact hb pins s1 σ H1 Q I1 q1
 |true=>exact⟨.bl true,H1,I1,rfl,q1⟩
theorem P9(ha:PE X a ta):PE X (.UnaryOp .Not a pos) (T6 ta):=by intro pins s σ H Q I h;refine UnaryOp_ (thn (ha pins s σ H _ I h) λv s1 zz=>?_);obtain⟨x,H1,I1,r1,q1⟩:=zz;obtain⟨c,rfl,q1⟩:=q1;cases r1;exact not_of (cq ⟨.bl (!c),H1,I1,rfl,q1⟩)
def tIf(t:TT)(ta tb:TE):TE:=λσ H Q=>t σ H λc H1=>if c=true then ta σ H1 Q else tb σ H1 Q
theorem Km(hc:PT X c tA)(ha:PE X a ta)(hb:PE X b tb):PE X (.IfExp c a b pos) (tIf tA ta tb):=by
 intro pins s σ H Q I h;refine wpAny_IfExp (thn (hc pins s σ H _ I h) λd s1 zz=>?_);obtain⟨H1,I1,q1⟩:=zz;cases d with
 |true=>exact ha pins s1 σ H1 Q I1 q1
 |false=>exact hb pins s1 σ H1 Q I1 q1
end
def SqL(K:ak)(H:Hp)(a:Addr)(xs:List V):Prop:=
 Rd H a (.lst xs)\/
  ∃(o:Obj) (its:Array aa) (n:Nat),K.lookup a=some o/\o.cls=.type "list" /\ o.dict=none/\o.data=.seq its n/\its.size<=ay/\Vals xs its.toList
def SqT(K:ak)(H:Hp)(a:Addr)(xs:List V):Prop:=
 Rd H a (.tup xs)\/
  ∃(o:Obj) (its:Array aa) (n:Nat),K.lookup a=some o/\o.cls=.type "tuple" /\ o.data=.seq its n/\its.size<=ay/\Vals xs its.toList
def VI:aa->Option V
 |.none=>some .non
 |.bool b=>some (.bl b)
 |.int i _=>some (.int i)
 |.str x _=>some (.str x)
 |.bytes b _=>some (.byt b)
 |.float b _=>some (.flt b)
 |.ref a=>some (.ref a)
 |.type n=>some (.ty n)
 |_=>none
theorem RelV.abs{x:V}(r:RelV x u):VI u=some x:=by
 cases x with
 |non=>cases r;rfl
 |bl _=>cases r;rfl
 |int _=>obtain⟨t,rfl⟩:=r;rfl
 |str _=>obtain⟨t,rfl⟩:=r;rfl
 |byt _=>obtain⟨t,rfl⟩:=r;rfl
 |flt _=>obtain⟨t,rfl⟩:=r;rfl
 |ref _=>cases r;rfl
 |ty _=>cases r;rfl
variable{y:V}
theorem RelV.inj{x:V}(r:RelV x u)(q:RelV y u):x=y:=bN (r.abs.symm.trans q.abs)
theorem Vals.inj:∀{xs ys:List V} {us:List aa},Vals xs us->Vals ys us->xs=ys
 |_,_,_,.nil,.nil=>rfl
 |_,_,_,.cons r t,.cons r' t'=>by rw[r.inj r',Vals.inj t t']
section
variable{X:Cx}{pins:List (Addr×Obj)}{σ:St}{H:Hp}{s:ab}{a:Addr}{xs ys:List V}
theorem SqL.of{K:ak}(h:H a=some (.lst xs)):SqL K H a xs:=.inl (.inl h)
theorem SqT.of{K:ak}(h:H a=some (.tup xs)):SqT K H a xs:=.inl (.inl h)
theorem Inv.list(I:Inv X pins σ H s)(h:SqL X.K H a xs):∃its:List aa,Vals xs its/\PlainL s.heap a its.toArray/\xs.length<=ay:=by
 rcases h with h|⟨o,its,n,hk,hc,hd,hs,hz,r⟩
 ·obtain⟨z,its,n,r,e⟩:=h.ok I.hok;exact⟨its,r,⟨_,n,e,rfl,rfl,rfl⟩,z⟩
 ·refine⟨its.toList,r,⟨o,n,I.kIn a o hk,hc,hd,by simpa using hs⟩,?_⟩;have e:=r.length;simp only[bh]at e;omega
theorem Inv.tuple(I:Inv X pins σ H s)(h:SqT X.K H a xs):∃its:List aa,Vals xs its/\gp s.heap a its.toArray/\xs.length<=ay:=by
 rcases h with h|⟨o,its,n,hk,hc,hs,hz,r⟩
 ·obtain⟨z,its,r,p⟩:=h.ok I.hok;exact⟨its,r,p,z⟩
 ·refine⟨its.toList,r,⟨o,I.kIn a o hk,hc,n,by simpa using hs⟩,?_⟩;have e:=r.length;simp only[bh]at e;omega
theorem Inv.list_inj(I:Inv X pins σ H s)(h:SqL X.K H a xs)(h':SqL X.K H a ys):xs=ys:=by
 obtain⟨its,r,⟨o,n,e,_,_,d⟩,_⟩:=I.list h;obtain⟨its',r',⟨o',n',e',_,_,d'⟩,_⟩:=I.list h';rw[e]at e';cases e';rw[d]at d';injection d' with d1 _;have:its=its':=by simpa using bj mI d1
 subst this;exact r.inj r'
theorem Inv.tuple_inj(I:Inv X pins σ H s)(h:SqT X.K H a xs)(h':SqT X.K H a ys):xs=ys:=by
 obtain⟨its,r,⟨o,e,_,n,d⟩,_⟩:=I.tuple h;obtain⟨its',r',⟨o',e',_,n',d'⟩,_⟩:=I.tuple h';rw[e]at e';cases e';rw[d]at d';injection d' with d1 _;have:its=its':=by simpa using bj mI d1
 subst this;exact r.inj r'
end
abbrev Cx.wish(X:Cx)(E:aa->ab->Prop):Cx:={ X with xe:=E }
abbrev Cx.nox(X:Cx):Cx:=X.wish λ_ _=>False
theorem Cx.Ok.wish(ok:X.Ok)(E:aa->ab->Prop):(X.wish E).Ok:=
 ⟨ok.mod,ok.kind,ok.glob,ok.blt,ok.above,ok.inj,ok.has,ok.cab,ok.hd,ok.frames,ok.stk,ok.exf,ok.bs,ok.bsz,ok.noex,ok.exfs,ok.funs,ok.frf⟩
theorem Cx.Ok.unwish(ok:(X.wish E).Ok):X.Ok:=
 ⟨ok.mod,ok.kind,ok.glob,ok.blt,ok.above,ok.inj,ok.has,ok.cab,ok.hd,ok.frames,ok.stk,ok.exf,ok.bs,ok.bsz,ok.noex,ok.exfs,ok.funs,ok.frf⟩
section
variable{X:Cx}{pins:List (Addr×Obj)}{σ:St}{H:Hp}{s:ab}{E:aa->ab->Prop}
theorem Inv.wish(I:Inv X pins σ H s)(E:aa->ab->Prop):Inv (X.wish E) pins σ H s:=⟨I.ok.wish E,I.os,I.bare,I.base,I.loc,I.cell,I.free,I.freeC,I.pin,I.hok,I.len⟩
theorem Inv.unwish(I:Inv (X.wish E) pins σ H s):Inv X pins σ H s:=⟨I.ok.unwish,I.os,I.bare,I.base,I.loc,I.cell,I.free,I.freeC,I.pin,I.hok,I.len⟩
theorem SP.unwish{D:Ends}{f:Flow}(h:SP (X.wish E) pins D f s'):SP X pins D f s':=by
 cases f with
 |next=>obtain⟨σ',H',I,q⟩:=h;exact⟨σ',H',I.unwish,q⟩
 |brk=>obtain⟨σ',H',I,q⟩:=h;exact⟨σ',H',I.unwish,q⟩
 |cont=>obtain⟨σ',H',I,q⟩:=h;exact⟨σ',H',I.unwish,q⟩
 |ret u=>obtain⟨v,σ',H',I,r,q⟩:=h;exact⟨v,σ',H',I.unwish,r,q⟩
theorem PSs.nox{st:List Stmt}{t:TS}(h:PSs X.nox st t):PSs X st t:=λpins s σ H D I hw=>
 bH (h pins s σ H D (I.wish _) hw) (λ_ _ q=>q.unwish) λ_ _ z=>b0 z
end
section
variable{X:Cx}{st:Stmt}{rest:List Stmt}{t u:TS}{e:Expr}{te:TE}{pos:Pos}
def T8:TS:=λD σ H=>D.nx σ H
def VJ(t u:TS):TS:=λD σ H=>t { D with nx:=u D } σ H
theorem Nk:PSs X [] T8:=λ_ _ σ H _ I h=>i9 ⟨σ,H,I,h⟩
theorem BP(h1:PS X st t)(h2:PSs X rest u):PSs X (st::rest) (VJ t u):=by
 intro pins s σ H D I h;refine lh (thn (h1 pins s σ H { D with nx:=u D } I h) λf s1 q=>?_);cases f with
 |next=>obtain⟨σ',H',I',q⟩:=q;exact h2 pins s1 σ' H' D I' q
 |ret v=>exact q
 |brk=>exact q
 |cont=>exact q
theorem Eu(h1:PS X st t):PSs X [st] t:=by
 intro pins s σ H D I h;refine lh (thn (h1 pins s σ H D I h) λf s1 q=>?_);cases f with
 |next=>exact i9 q
 |ret v=>exact q
 |brk=>exact q
 |cont=>exact q
theorem Inv.quiet{H:Hp}{s:ab}(I:Inv X pins σ H s):interactive X.env=false:=by simp[interactive,I.ok.kind]
def Pi(te:TE):TS:=λD σ H=>te σ H λ_ H1=>D.nx σ H1
theorem HP(he:PE X e te)(hs:cy e none pos.line X.env=pure false:=by rfl):PS X (.Expr e pos) (Pi te):=by intro pins s σ H D I h;exact wpAny_Expr_any (thn (he pins s σ H _ I h) λv s1 ⟨x,H1,I1,r1,q1⟩=>⟨σ,H1,I1,q1⟩) I.quiet hs
def T9(te:TE):TS:=λD σ H=>te σ H D.rt
theorem Gy(he:PE X e te):PS X (.Return (some e) pos) (T9 te):=by intro pins s σ H D I h;exact wpAny_Return_some (thn (he pins s σ H _ I h) λv s1 ⟨x,H1,I1,r1,q1⟩=>⟨x,σ,H1,I1,r1,q1⟩)
def VL(c:TT)(t u:TS):TS:=λD σ H=>c σ H λb H1=>if b=true then t D σ H1 else u D σ H1
theorem Ua{a b:List Stmt}{tc:TT}(hc:PT X c tc)(ha:PSs X a t)(hb:PSs X b u):PS X (.If c a b pos) (VL tc t u):=by
 intro pins s σ H D I h;refine wpAny_If (thn (hc pins s σ H _ I h) λd s1 zz=>?_);obtain⟨H1,I1,q1⟩:=zz;cases d with
 |true=>exact ha pins s1 σ H1 D I1 q1
 |false=>exact hb pins s1 σ H1 D I1 q1
end
abbrev TG:=V->St->Hp->(St->Hp->Prop)->Prop
abbrev TGs:=List V->St->Hp->(St->Hp->Prop)->Prop
def PG(X:Cx)(target:Expr)(t:TG):Prop:=
 ∀(pins:List (Addr×Obj)) (s:ab) (σ:St) (H:Hp) (v:V) (u:aa) (Q:St->Hp->Prop),Inv X pins σ H s->RelV v u->t v σ H Q->
  ag (model X.prog X.w) X.A (assign target X.env u) (λ_ s'=>∃σ' H',Inv X pins σ' H' s'/\Q σ' H') X.xe s
def PGs(X:Cx)(ts:List Expr)(t:TGs):Prop:=
 ∀(pins:List (Addr×Obj)) (s:ab) (σ:St) (H:Hp) (vs:List V) (us:List aa) (Q:St->Hp->Prop),Inv X pins σ H s->Vals vs us->t vs σ H Q->
  ag (model X.prog X.w) X.A (assignInOrder ((bD ts X.env).map (·.2)) us) (λ_ s'=>∃σ' H',Inv X pins σ' H' s'/\Q σ' H') X.xe s
abbrev Qa:=V->V->V->Hp->(Hp->Prop)->Prop
def Ub(X:Cx)(t:Qa):Prop:=
 ∀(pins:List (Addr×Obj)) (s:ab) (σ:St) (H:Hp) (o i v:V) (ov iv u:aa) (Q:Hp->Prop),Inv X pins σ H s->RelV o ov->RelV i iv->RelV v u->t o i v H Q->
  ag (model X.prog X.w) X.A (setItem ov iv u) (λ_ s'=>∃H',Inv X pins σ H' s'/\Q H') X.xe s
variable{es:List Expr}{tg:Expr}{te:TE}
section
variable{X:Cx}{pos:Pos}
def vE(i:Nat):TG:=λv σ H Q=>Q (σ.set i (some v)) H
theorem HQ(hN:X.N.Nodup)(hi:X.N[i]?=some x)(hx:Loc X.env.scope x)(hf:X.fn x=true\/X.env.scope.names.lookup x=some .local:=by first|exact .inl rfl|exact .inr rfl|assumption):PG X (.Name x pos) (vE i):=by intro pins s σ H v u Q I r h;exact wpAny_assign_Name (Fj I hN hi hx r (λs' I'=>⟨_,H,I',h⟩) hf)
def Uc:TGs:=λvs σ H Q=>vs=[]/\Q σ H
def Pj(t:TG)(u:TGs):TGs:=λvs σ H Q=>∃v r,vs=v::r/\t v σ H λσ' H'=>u r σ' H' Q
theorem Nl:PGs X [] Uc:=by intro pins s σ H vs us Q I r h;obtain⟨e,h⟩:=h;subst e;cases r;exact assignInOrder_nil ⟨σ,H,I,h⟩
theorem Kn{t:TG}{u:TGs}(h1:PG X e t)(h2:PGs X es u)
  (hs:(bD (e::es) X.env).map (·.2)=assign e X.env::(bD es X.env).map (·.2):=by rfl):PGs X (e::es) (Pj t u):=by
 intro pins s σ H vs us Q I r h;obtain⟨v,vr,e1,h⟩:=h;subst e1;cases r with
 |cons r rr=>rw[hs];refine assignInOrder_cons (thn (h1 pins s σ H _ _ _ I r h) λ_ s1 zz=>?_);obtain⟨σ1,H1,I1,q1⟩:=zz;exact h2 pins s1 σ1 H1 _ _ Q I1 rr q1
def Qb(K:ak)(n:Nat)(t:TGs):TG:=λv σ H Q=>∃a xs,v=.ref a/\SqT K H a xs/\xs.length=n/\t xs σ H Q
theorem Qc{k:Nat}{t:TGs}{n:Nat}(hc:X.calm=true)(h:PGs X es t)
  (hn:(bD es X.env).length=n:=by rfl) (hst:(bD es X.env).findIdx? (·.1)=none:=by rfl):PG X (.Tuple es k pos) (Qb X.K n t):=by
 intro pins s σ H v u Q I r hw;obtain⟨a,xs,e1,hq,hl,hw⟩:=hw;subst e1;cases r;obtain⟨its,rv,ht,hz⟩:=I.tuple hq;refine assign_Tuple_tuple (I.ok.hd hc) ht (by simp[hn,<- hl,rv.length]) hst λh' hx=>?_;have I1:Inv X pins σ H { s with heap:=h' }:=I.kept (t':=s.toks) λb o e=>hx b o (aI (aD e)) e;exact h pins _ σ H xs _ Q I1 (by simpa using rv) hw
def Ud(to ti:TE)(t:Qa):TG:=λv σ H Q=>to σ H λo H1=>ti σ H1 λi H2=>t o i v H2 λH3=>Q σ H3
theorem Qd{o i:Expr}{to ti:TE}{t:Qa}(ho:PE X o to)(hi:PE X i ti)(hs:Ub X t)
  (ha:∀v,assign (.Subscript o i pos) X.env v=(do
   let ov<-holding [v] (eval o X.env);let iv<-holding [v,ov] (eval i X.env)
   standAt pos
   holding [v,ov,iv] (setItem ov iv v)
   release [v,ov,iv] []):=by intro _;rfl):PG X (.Subscript o i pos) (Ud to ti t):=by
 intro pins s σ H v u Q I r h;rw[ha];refine ae (bu (thn (ho pins s σ H _ I h) λov s1 zz=>?_));obtain⟨x,H1,I1,r1,q1⟩:=zz;refine ae (bu (thn (hi pins s1 σ H1 _ I1 q1) λiv s2 zz=>?_));obtain⟨y,H2,I2,r2,q2⟩:=zz;refine ae (hJ (ae (bu (thn (hs pins s2 σ H2 x y v ov iv u _ I2 r1 r2 r q2) λ_ s3 zz=>?_))));obtain⟨H3,I3,q3⟩:=zz;exact wpAny_release ⟨σ,H3,I3,q3⟩
def zf(te:TE)(g:TG):TS:=λD σ H=>te σ H λx H1=>g x σ H1 D.nx
theorem Ko{g:TG}(he:PE X e te)(hg:PG X tg g)(hs:swapsWithSole [tg] e pos.line X.env=pure false:=by rfl)(hw:swappedStores [tg] e X.env=pure none:=by rfl)
  (h1:(bD [tg] X.env).map (·.2)=[assign tg X.env]:=by rfl):PS X (.Assign [tg] e pos) (zf te g):=by
 intro pins s σ H D I h;refine wpAny_Assign_stores (thn (he pins s σ H _ I h) λv s1 zz=>?_) hs hw;obtain⟨x,H1,I1,r1,q1⟩:=zz;rw[h1];exact thn (hg pins s1 σ H1 x v _ I1 r1 q1) λ_ s2 q=>q
theorem Qe{pos':Pos}(hN:X.N.Nodup)(hi:X.N[i]?=some x)(hx:Loc X.env.scope x)(he:PE X e te)(hs:cy e (some (.Name x pos')) pos.line X.env=pure false:=by rfl)(hf:X.fn x=true\/X.env.scope.names.lookup x=some .local:=by first|exact .inl rfl|exact .inr rfl|assumption):
  PS X (.Assign [.Name x pos'] e pos) (zf te (vE i)):=by
 intro pins s σ H D I h;refine wpAny_Assign_Name (thn (he pins s σ H _ I h) λv s1 zz=>?_) hs;obtain⟨y,H1,I1,r1,q1⟩:=zz;exact Fj I1 hN hi hx r1 (λs2 I2=>⟨_,H1,I2,q1⟩) hf
end
structure It where
 go:Nat->Hp->Prop
 yld:Nat->Hp->V->Hp->Prop
 stop:Nat->Hp->Prop
def Ew(X:Cx)(pins:List (Addr×Obj))(H:Hp)(b:Addr):Prop:=
 H b=none/\b≠X.env.locals/\b∉X.fs/\(b∈X.ex\/X.s₀.heap.objs.size<=b)/\(∀x c,X.env.cells.lookup x=some c->c≠b)/\∀p∈X.pn++pins,p.1≠b
theorem Inv.fpOk{H H':Hp}{s:ab}(I:Inv X pins σ H s)(hb:s.heap.objs.size<=b)(hn:H' b=none):Ew X pins H' b:=by
 refine⟨hn,eh (bG I.lt hb),I.nofs hb,.inr (bc I.sz hb),λx c e z=>?_,λp hp z=>?_⟩
 ·obtain⟨v,q⟩:=I.cell x c e;exact ao (bG q.lt (by rw[z];exact hb)) (dH _)
 ·exact ao (bG (aD (I.pin p hp).1) (by rw[z];exact hb)) (dH _)
structure Turn(P:ar)(w:aq)(K:ak)(tg:Expr)(J:It)(fp:List Addr)(it:Addr)(tn:Nat->Heap->Prop):Prop where
 mem:it∈fp
 obj:∀i h,tn i h->∀b∈fp,∃o,h.get? b=some o/\∀v,o.data≠.cell v
 keep:∀i h h',tn i h->(∀b∈fp,∀o,h.get? b=some o->h'.get? b=some o)->tn i h'
 item:∀(X:Cx),X.prog=P->X.w=w->X.K=K->X.calm=true->∀(i:Nat) (pins:List (Addr×Obj)) (s:ab) (σ:St) (H:Hp) (E:aa->ab->Prop),Inv X pins σ H s->(∀b∈fp,Ew X pins H b)->tn i s.heap->J.go i H->
  ag (model P w) X.A (pyNext (.ref it)) (λr s1=>∃u,r=some u/\
   ag (model P w) X.A (eX tg (.ref it) u) (λ_ s2=>∃x H',Inv X pins σ H' s2/\RelV x u/\J.yld i H x H'/\tn (i+1) s2.heap/\∀b∈fp,H' b=none) E s1) E s
 done:∀(X:Cx),X.prog=P->X.w=w->X.K=K->X.calm=true->∀(i:Nat) (pins:List (Addr×Obj)) (s:ab) (σ:St) (H:Hp) (E:aa->ab->Prop),Inv X pins σ H s->(∀b∈fp,Ew X pins H b)->tn i s.heap->J.stop i H->
  ag (model P w) X.A (pyNext (.ref it)) (λr s1=>r=none/\Inv X pins σ H s1) E s
 self:∀(A:av) (i:Nat) (s:ab) (Q:aa->ab->Prop) (E:aa->ab->Prop),tn i s.heap->Q (.ref it) s->ag (model P w) A (pyIter (.ref it)) Q E s
abbrev TI:=St->Hp->(It->Hp->Prop)->Prop
def PIE(X:Cx)(pins:List (Addr×Obj))(σ:St)(tg:Expr)(R:It->Hp->Prop)(itv:aa)(s2:ab):Prop:=
 ∃(it:Addr) (fp:List Addr) (tn:Nat->Heap->Prop) (J:It) (H':Hp),itv=.ref it/\Inv X pins σ H' s2/\Turn X.prog X.w X.K tg J fp it tn/\tn 0 s2.heap/\(∀b∈fp,Ew X pins H' b)/\R J H'
def PI(X:Cx)(tg iter:Expr)(wi:TI):Prop:=
 ∀(pins:List (Addr×Obj)) (s:ab) (σ:St) (H:Hp) (R:It->Hp->Prop),Inv X pins σ H s->wi σ H R->
  ag (model X.prog X.w) X.A (eval iter X.env) (λv s1=>ag (model X.prog X.w) X.A (pyIter v) (PIE X pins σ tg R) X.xe s1) X.xe s
theorem HR{A:av}{s:ab}{o:Obj}{n:String}{vs:Array aa}{Q:Unit->ab->Prop}(ho:s.heap.get? it=some o)(hc:o.cls=.type n)(hd:o.data=.fields vs)
  (hn:["enumerate", "zip", "dict_itemiterator", "dict_reverseitemiterator", "odict_iterator", "itertools.zip_longest", "itertools.pairwise"].contains n=false) (hQ:Q () s):ag M A (eX tg (.ref it) u) Q E s:=by
 unfold eX;cases tg<;>first
  |exact ai hQ
  |(cases u<;>first
    |exact ai hQ
    |(refine ae (wpAny_load ho ?_)
      rw[hc,hd];show ag M A (if (["enumerate", "zip", "dict_itemiterator", "dict_reverseitemiterator", "odict_iterator", "itertools.zip_longest", "itertools.pairwise"].contains n&&vs[0]?==some (rawInt _))=true then _ else _) Q E s;rw[aj (by intro h;rw[hn,Bool.false_and]at h;cases h)];exact ai hQ))
def Itl(K:ak)(a:Addr):It:=
 ⟨λi H=>∃xs x,SqL K H a xs/\xs[i]?=some x,λi H x H'=>H'=H/\∀xs,SqL K H a xs->xs[i]?=some x,λi H=>∃xs,SqL K H a xs/\xs.length<=i⟩
def Itt(K:ak)(a:Addr):It:=
 ⟨λi H=>∃xs x,SqT K H a xs/\xs[i]?=some x,λi H x H'=>H'=H/\∀xs,SqT K H a xs->xs[i]?=some x,λi H=>∃xs,SqT K H a xs/\xs.length<=i⟩
def Itr(lo:Int)(n:Nat):It:=⟨λi _=>i<n,λi H x H'=>H'=H/\x=.int (lo+i),λi _=>n<=i⟩
theorem Jq{P:ar}{w:aq}{K:ak}(a it:Addr):Turn P w K tg (Itl K a) [it] it (λi h=>h.IsListIter it a i) where
 mem:=by simp
 obj:=λi h st b hb=>by
  have e:b=it:=by simpa using hb
  subst e;obtain⟨o,e,c,d⟩:=st;exact⟨o,e,λv z=>by rw[d]at z;cases z⟩
 keep:=λi h h' st k=>st.at λo e=>k it (by simp) o e
 item:=by intro X hP hw hK hc i pins s σ H E I hf st hg;subst hP hw hK;obtain⟨xs,x,hq,hx⟩:=hg;obtain⟨its,rv,p,hz⟩:=I.list hq;obtain⟨u,hu,ru⟩:=rv.get hx;obtain⟨f0,f1,f2,f3,f4,f5⟩:=hf it (by simp);refine jY st p.isList (x:=u) (by simpa using hu) λh' st' sb=>?_;have I1:Inv X pins σ H { s with heap:=h' }:=I.turned (t':=s.toks) (λb o hb e=>(sb.2 b hb).trans e) f0 f1 f3 f4 f5;obtain⟨o,e,c,d⟩:=id st';exact⟨u,rfl,HR (s:={ s with heap:=h' }) e c d (by decide) ⟨x,H,I1,ru,⟨rfl,λys hy=>by rw[I.list_inj hy hq];exact hx⟩,st',λb hb=>(hf b hb).1⟩⟩
 done:=by intro X hP hw hK hc i pins s σ H E I hf st hg;subst hP hw hK;obtain⟨xs,hq,hx⟩:=hg;obtain⟨its,rv,p,hz⟩:=I.list hq;obtain⟨f0,f1,f2,f3,f4,f5⟩:=hf it (by simp);have hl:=rv.length;exact j6 (I.ok.hd hc) st p.isList (by simp;omega) λh' eb=>⟨rfl,I.turned (t':=s.toks) (λb o hb e=>eb b o hb e) f0 f1 f3 f4 f5⟩
 self:=λ_ _ _ _ _ st h=>wpAny_pyIter_listiter st h
theorem GA{P:ar}{w:aq}{K:ak}(a it:Addr):Turn P w K tg (Itt K a) [it] it (λi h=>h.IsTupleIter it a i) where
 mem:=by simp
 obj:=λi h st b hb=>by
  have e:b=it:=by simpa using hb
  subst e;obtain⟨o,e,c,d⟩:=st;exact⟨o,e,λv z=>by rw[d]at z;cases z⟩
 keep:=λi h h' st k=>st.at λo e=>k it (by simp) o e
 item:=by intro X hP hw hK hc i pins s σ H E I hf st hg;subst hP hw hK;obtain⟨xs,x,hq,hx⟩:=hg;obtain⟨its,rv,p,hz⟩:=I.tuple hq;obtain⟨u,hu,ru⟩:=rv.get hx;obtain⟨f0,f1,f2,f3,f4,f5⟩:=hf it (by simp);refine wpAny_pyNext_tuple_item st (show s.heap.IsTuple a its.toArray from p) (x:=u) (by simpa using hu) λh' st' sb=>?_;have I1:Inv X pins σ H { s with heap:=h' }:=I.turned (t':=s.toks) (λb o hb e=>(sb.2 b hb).trans e) f0 f1 f3 f4 f5;obtain⟨o,e,c,d⟩:=id st';exact⟨u,rfl,HR (s:={ s with heap:=h' }) e c d (by decide) ⟨x,H,I1,ru,⟨rfl,λys hy=>by rw[I.tuple_inj hy hq];exact hx⟩,st',λb hb=>(hf b hb).1⟩⟩
 done:=by intro X hP hw hK hc i pins s σ H E I hf st hg;subst hP hw hK;obtain⟨xs,hq,hx⟩:=hg;obtain⟨its,rv,p,hz⟩:=I.tuple hq;obtain⟨f0,f1,f2,f3,f4,f5⟩:=hf it (by simp);have hl:=rv.length;exact wpAny_pyNext_tuple_end (I.ok.hd hc) st (show s.heap.IsTuple a its.toArray from p) (by simp;omega) λh' eb=>⟨rfl,I.turned (t':=s.toks) (λb o hb e=>eb b o hb e) f0 f1 f3 f4 f5⟩
 self:=λ_ _ _ _ _ st h=>wpAny_pyIter_tupleiter st h
theorem GB{P:ar}{w:aq}{K:ak}(it:Addr)(lo:Int)(n:Nat):Turn P w K tg (Itr lo n) [it] it (λi h=>IsRangeIter h it (lo+(i:Nat) * 1) ((n:Int) - (i:Nat)) 1) where
 mem:=by simp
 obj:=λi h st b hb=>by
  have e:b=it:=by simpa using hb
  subst e;exact⟨_,st,λv z=>by
   have z':Data.fields _=Data.cell v:=z;cases z'⟩
 keep:=λi h h' st k=>k it (by simp) _ st
 item:=by intro X hP hw hK hc i pins s σ H E I hf st hg;subst hP hw hK;obtain⟨f0,f1,f2,f3,f4,f5⟩:=hf it (by simp);have W:=Walks.range (prog:=X.prog) (w:=X.w) (I.ok.hd hc) it lo 1 n;refine W.item i s _ _ hg st λv h' tk hv st' kk=>?_;obtain⟨t,rfl⟩:=hv;have I1:Inv X pins σ H { s with heap:=h',toks:=tk }:=I.turned (λb o hb e=>kk b o (by simpa using hb) e) f0 f1 f3 f4 f5;refine⟨_,rfl,HR (s:={ s with heap:=h',toks:=tk }) (n:="range_iterator") st' rfl rfl (by decide) ⟨.int (lo+i),H,I1,⟨t,?_⟩,⟨rfl,rfl⟩,st',λb hb=>(hf b hb).1⟩⟩;rw[Int.mul_one]
 done:=by intro X hP hw hK hc i pins s σ H E I hf st hg;subst hP hw hK;obtain⟨f0,f1,f2,f3,f4,f5⟩:=hf it (by simp);exact wpAny_pyNext_range_end (I.ok.hd hc) st (by have:n<=i:=hg;omega) λh' eb=>⟨rfl,I.turned (t':=s.toks) (λb o hb e=>eb b o hb e) f0 f1 f3 f4 f5⟩
 self:=λ_ _ _ _ _ st h=>wpAny_pyIter_rangeiter st h
variable{l:Expr}{tl:TE}{body:List Stmt}
section
variable{X:Cx}{tg:Expr}
def Kp(K:ak)(tl:TE):TI:=λσ H R=>tl σ H λx H1=>∃a,x=.ref a/\(∃xs,SqL K H1 a xs)/\R (Itl K a) H1
def Qf(K:ak)(tl:TE):TI:=λσ H R=>tl σ H λx H1=>∃a,x=.ref a/\(∃xs,SqT K H1 a xs)/\R (Itt K a) H1
theorem Np(hl:PE X l tl):PI X tg l (Kp X.K tl):=by
 intro pins s σ H R I h;refine thn (hl pins s σ H _ I h) λv s1 zz=>?_;obtain⟨x,H1,I1,r1,q1⟩:=zz;obtain⟨a,e,⟨xs,hq⟩,q⟩:=q1;subst e;cases r1;obtain⟨its,rv,p,hz⟩:=I1.list hq;refine dW p.isList ?_;refine⟨s1.heap.objs.size,[s1.heap.objs.size],_,_,H1,rfl,I1.kept (t':=s1.toks) λb o e=>aA _ e,Jq a _,⟨_,aU _ rfl,rfl,rfl⟩,λb hb=>?_,q⟩;have e:b=s1.heap.objs.size:=by simpa using hb
 subst e;exact I1.fpOk (aC _) (I1.hok.fresh (aC _))
theorem Qg(hl:PE X l tl):PI X tg l (Qf X.K tl):=by
 intro pins s σ H R I h;refine thn (hl pins s σ H _ I h) λv s1 zz=>?_;obtain⟨x,H1,I1,r1,q1⟩:=zz;obtain⟨a,e,⟨xs,hq⟩,q⟩:=q1;subst e;cases r1;obtain⟨its,rv,p,hz⟩:=I1.tuple hq;refine kD (show s1.heap.IsTuple a its.toArray from p) ?_;refine⟨s1.heap.objs.size,[s1.heap.objs.size],_,_,H1,rfl,I1.kept (t':=s1.toks) λb o e=>aA _ e,GA a _,⟨_,aU _ rfl,rfl,rfl⟩,λb hb=>?_,q⟩;have e:b=s1.heap.objs.size:=by simpa using hb
 subst e;exact I1.fpOk (aC _) (I1.hok.fresh (aC _))
theorem Kq{H:Hp}{s:ab}{R:It->Hp->Prop}{lo hi:Int}{t u v:Tok}{tk:Nat}(I:Inv X pins σ H s)(h1:-(2 ^ 62)<=lo)(h2:lo<2 ^ 62)(h3:-(2 ^ 62)<=hi)(h4:hi<2 ^ 62)
  (q:R (Itr lo (hi - lo).toNat) H):ag (model X.prog X.w) X.A (pyIter (.ref s.heap.objs.size)) (PIE X pins σ tg R) E { s with heap:=s.heap.push { cls:=.type "range", data:=.fields #[.int lo t,.int hi u,.int 1 v] },toks:=tk }:=by
 refine wpAny_pyIter_range (IsRange.new ..) (small_one h1 h2 h3 h4) ?_;have I1:Inv X pins σ H { s with heap:=s.heap.push { cls:=.type "range", data:=.fields #[.int lo t,.int hi u,.int 1 v] },toks:=tk }:=I.kept λb o e=>aA _ e;refine⟨(s.heap.push { cls:=.type "range", data:=.fields #[.int lo t,.int hi u,.int 1 v] }).objs.size,[(s.heap.push { cls:=.type "range", data:=.fields #[.int lo t,.int hi u,.int 1 v] }).objs.size],_,_,H,rfl,
  I1.kept (t':=tk) λb o e=>aA _ e,GB _ lo (hi - lo).toNat,?_,λb hb=>?_,q⟩
 ·have e1:lo+((0:Nat):Int) * 1=lo:=by simp
  have e2:(((hi - lo).toNat:Nat):Int) - ((0:Nat):Int)=og lo hi 1:=by rw[rangeSize_one];split<;>omega
  show IsRangeIter _ _ (lo+((0:Nat):Int) * 1) ((((hi - lo).toNat:Nat):Int) - ((0:Nat):Int)) 1;rw[e1,e2];exact aU _ rfl
 ·have e:b=(s.heap.push { cls:=.type "range", data:=.fields #[.int lo t,.int hi u,.int 1 v] }).objs.size:=by simpa using hb
  subst e;exact I1.fpOk (aC _) (I1.hok.fresh (aC _))
def Pk(ta:TA):TI:=λσ H R=>ta σ H λvs H1=>∃j:Int,vs=[.int j]/\-(2 ^ 62)<=j/\j<2 ^ 62/\R (Itr 0 j.toNat) H1
theorem Jr{a:Expr}{ta:TA}{p:Pos}(hg:Gl X "range")(hm:X.mg "range" = none)(ha:PA X [a] ta)(hs:aw [a] X.env=[(false,eval a X.env)]:=by rfl):PI X tg (.Call (.Name "range" p) [a] [] pos) (Pk ta):=by
 intro pins s σ H R I h;refine Call_ (xU I hg hm boot_range (callWith_type1 (thn (ha pos pins s σ H _ I h) λus s1 zz=>?_) hs rfl));obtain⟨vs,H1,I1,r1,q1⟩:=zz;obtain⟨j,e,q1,q2,q⟩:=q1;subst e;cases r1 with
 |cons r rr=>cases rr;obtain⟨t,rfl⟩:=r;exact call_range_1 (Kq I1 (by omega) (by omega) q1 q2 (by simpa using q))
def Qh(wi:TI)(g:TG)(tb:TS):TS:=λD σ H=>wi σ H λJ H1=>∃W:Nat->Nat->St->Hp->Prop,(∃m,W 0 m σ H1)/\∀i m σ H,W i m σ H->
 (J.stop i H/\D.nx σ H)\/(J.go i H/\∃N:St->Hp->Prop,(∀σ' H',N σ' H'->∃m',m'<m/\W (i+1) m' σ' H')/\∀x H',J.yld i H x H'->g x σ H' λσ2 H2=>tb { D with nx:=N,ct:=N,bk:=D.nx } σ2 H2)
def BQ(fp:List Addr)(h:Heap):List (Addr×Obj):=fp.filterMap λb=>(h.get? b).map λo=>(b,o)
theorem uW{fp:List Addr}{h:Heap}{o:Obj}(hb:b∈fp)(e:h.get? b=some o):(b,o)∈BQ fp h:=gS.mpr ⟨b,hb,by rw[e];rfl⟩
theorem Js{fp:List Addr}{h:Heap}{p:Addr×Obj}(hp:p∈BQ fp h):p.1∈fp/\h.get? p.1=some p.2:=by
 obtain⟨b,hb,e⟩:=gS.mp hp;cases q:h.get? b with
 |none=>rw[q]at e;cases e
 |some o=>rw[q]at e;have e':(b,o)=p:=bN e;subst e';exact⟨hb,q⟩
theorem Inv.pinned{H:Hp}{s:ab}{fp:List Addr}(I:Inv X pins σ H s)(hf:∀b∈fp,Ew X pins H b)(ho:∀b∈fp,∃o,s.heap.get? b=some o/\∀v,o.data≠.cell v):Inv X (pins++BQ fp s.heap) σ H s:=
 I.pins_of λp hp=>(aQ.mp hp).elim (λz=>I.pin p (aZ _ z)) λz=>by obtain⟨hb,e⟩:=Js z;obtain⟨f0,f1,f2,_⟩:=hf p.1 hb;obtain⟨o,e',d⟩:=ho p.1 hb;rw[e]at e';cases e';exact⟨e,f0,f1,f2,d⟩
theorem Inv.unpinned{pl:List (Addr×Obj)}{H:Hp}{s:ab}(I:Inv X (pins++pl) σ H s):Inv X pins σ H s:=I.pins_of λp hp=>I.pin p (aZ _ (bg _ hp))
theorem Kr{iter:Expr}{wi:TI}{g:TG}{tb:TS}(hp:PassesOwn (model X.prog X.w) X.A X.env X.xe)(hc:X.calm=true)(hi:PI X tg iter wi)(hg:PG X tg g)(hb:PSs X body tb)
  (hs:∀x,fM iter X.env x=pure x:=by intro _;rfl):PS X (.For tg iter body [] pos) (Qh wi g tb):=by
 intro pins s σ H D I h;refine wpAny_For (thn (hi pins s σ H _ I h) λv s1 h1=>thn h1 λitv s2 h2=>?_) hs;obtain⟨it,fp,tn,J,H2,e,I2,T,st2,f2,W,⟨m0,w0⟩,turn⟩:=h2;subst e;have stat:∀{H':Hp},(∀b∈fp,H' b=none)->∀b∈fp,Ew X pins H' b:=λhn b hb=>⟨hn b hb,(f2 b hb).2⟩;refine codeAny_forLoop_any (λn s'=>∃i σ' H',Inv X pins σ' H' s'/\tn i s'.heap/\(∀b∈fp,H' b=none)/\W i n σ' H') ?_ m0 ⟨0,σ,H2,I2,st2,λb hb=>(f2 b hb).1,w0⟩;rintro n s3 ⟨i,σ3,H3,I3,st3,fr3,w3⟩;rcases turn i n σ3 H3 w3 with ⟨stop,qn⟩|⟨go,N,hN,step⟩
 ·refine fR hp (thn (T.done X rfl rfl rfl hc i pins s3 σ3 H3 X.xe I3 (stat fr3) st3 stop) λr s4 zz=>?_);obtain⟨hr,I4⟩:=zz;subst hr;exact i9 ⟨σ3,H3,I4,qn⟩
 ·refine fR hp (thn (T.item X rfl rfl rfl hc i pins s3 σ3 H3 X.xe I3 (stat fr3) st3 go) λr s4 zz=>?_);obtain⟨u,hr,h4⟩:=zz;subst hr;refine fR hp (thn h4 λ_ s5 zz=>?_);obtain⟨x,H5,I5,r5,y5,st5,fr5⟩:=zz;have I5':=I5.pinned (stat fr5) (T.obj _ _ st5);refine fR hp (thn (hg _ s5 σ3 H5 x u _ I5' r5 (step x H5 y5)) λ_ s6 zz=>?_);obtain⟨σ6,H6,I6,q6⟩:=zz;refine fR hp (thn (hb _ s6 σ6 H6 _ I6 q6) λf s7 q7=>?_);have again:∀{σ7:St} {H7:Hp},Inv X (pins++BQ fp s5.heap) σ7 H7 s7->N σ7 H7->∃m,m<n/\∃i σ' H',Inv X pins σ' H' s7/\tn i s7.heap/\(∀b∈fp,H' b=none)/\W i m σ' H':=λ{σ7 H7} I7 n7=>by obtain⟨m',hm,w7⟩:=hN σ7 H7 n7;refine⟨m',hm,i+1,σ7,H7,I7.unpinned,T.keep _ _ _ st5 λb hb o e=>(I7.pin (b,o) (aZ _ (aZ _ (uW hb e)))).1,λb hb=>?_,w7⟩;obtain⟨o,e,d⟩:=T.obj _ _ st5 b hb;exact(I7.pin (b,o) (aZ _ (aZ _ (uW hb e)))).2.1
  cases f with
  |next=>obtain⟨σ7,H7,I7,n7⟩:=q7;exact again I7 n7
  |cont=>obtain⟨σ7,H7,I7,n7⟩:=q7;exact again I7 n7
  |brk=>obtain⟨σ7,H7,I7,q7⟩:=q7;exact⟨σ7,H7,I7.unpinned,q7⟩
  |ret v=>obtain⟨x7,σ7,H7,I7,r7,q7⟩:=q7;exact⟨x7,σ7,H7,I7.unpinned,r7,q7⟩
end
abbrev R2:=V->V->Hp->VK->Prop
def OpR(X:Cx)(f:aa->aa->Sem aa)(r:R2):Prop:=
 ∀(pins:List (Addr×Obj)) (s:ab) (σ:St) (H:Hp) (x y:V) (v u:aa) (Q:VK),Inv X pins σ H s->RelV x v->RelV y u->r x y H Q->
  ag (model X.prog X.w) X.A (f v u) (EP X pins σ Q) X.xe s
def rY(X:Cx)(f:aa)(r:List V->Hp->VK->Prop):Prop:=
 ∀(pins:List (Addr×Obj)) (s:ab) (σ:St) (H:Hp) (xs:List V) (us:List aa) (Q:VK),Inv X pins σ H s->Vals xs us->r xs H Q->
  ag (model X.prog X.w) X.A (call f us) (EP X pins σ Q) X.xe s
def tOp(r:R2)(ta tb:TE):TE:=λσ H Q=>ta σ H λx H1=>tb σ H1 λy H2=>r x y H2 Q
def rI(C:Int->Int->Prop)(g:Int->Int->V):R2:=λx y H Q=>∃i j,x=.int i/\y=.int j/\C i j/\Q (g i j) H
def rI0(g:Int->Int->V):R2:=λx y H Q=>∃i j,x=.int i/\y=.int j/\Q (g i j) H
variable{f:aa->aa->Sem aa}{r:R2}
section
variable{X:Cx}{a b c:Expr}{ta tb tc:TE}{pos:Pos}
theorem Qi(ha:PE X a ta)(hb:PE X b tb){s:ab}{H:Hp}{R:V->V->Hp->Prop}(I:Inv X pins σ H s)
  (h:ta σ H λx H1=>tb σ H1 λy H2=>R x y H2)
  (hf:∀v u s2 x y H2,Inv X pins σ H2 s2->RelV x v->RelV y u->R x y H2->ag (model X.prog X.w) X.A (f v u) Q X.xe s2):
  ag (model X.prog X.w) X.A (eval a X.env) (λv s₁=>ag (model X.prog X.w) X.A (eval b X.env) (λu s₂=>ag (model X.prog X.w) X.A (f v u) Q X.xe s₂) X.xe s₁) X.xe s:=by
 refine thn (ha pins s σ H _ I h) λv s1 zz=>?_;obtain⟨x,H1,I1,r1,q1⟩:=zz;refine thn (hb pins s1 σ H1 _ I1 q1) λu s2 zz=>?_;obtain⟨y,H2,I2,r2,q2⟩:=zz;exact hf v u s2 x y H2 I2 r1 r2 q2
theorem HU{op:il}(ho:OpR X (bO op) r)(ha:PE X a ta)(hb:PE X b tb):PE X (.BinOp a op b pos) (tOp r ta tb):=by intro pins s σ H Q I h;exact wpAny_BinOp (Qi ha hb I h λv u s2 x y H2 I2 rx ry q=>ho pins s2 σ H2 x y v u Q I2 rx ry q)
theorem opI{C:Int->Int->Prop}{g:Int->Int->Int}
  (rule:∀(i j:Int) (t u:Tok) (s:ab) (Q:aa->ab->Prop) (E:aa->ab->Prop),C i j->Q (.int (g i j) s.toks) { s with toks:=s.toks+1 }->ag (model X.prog X.w) X.A (f (.int i t) (.int j u)) Q E s):
  OpR X f (rI C λi j=>.int (g i j)):=by
 intro pins s σ H x y v u Q I rx ry h;obtain⟨i,j,rfl,rfl,hc,q⟩:=h;obtain⟨t,rfl⟩:=rx;obtain⟨t',rfl⟩:=ry;exact rule i j t t' s _ _ hc ⟨.int (g i j),H,I.tok _,⟨_,rfl⟩,q⟩
theorem Ue{g:Int->Int->Int}
  (rule:∀(i j:Int) (t u:Tok) (s:ab) (Q:aa->ab->Prop) (E:aa->ab->Prop),Q (.int (g i j) s.toks) { s with toks:=s.toks+1 }->ag (model X.prog X.w) X.A (f (.int i t) (.int j u)) Q E s):
  OpR X f (rI0 λi j=>.int (g i j)):=by
 intro pins s σ H x y v u Q I rx ry h;obtain⟨i,j,rfl,rfl,q⟩:=h;obtain⟨t,rfl⟩:=rx;obtain⟨t',rfl⟩:=ry;exact rule i j t t' s _ _ ⟨.int (g i j),H,I.tok _,⟨_,rfl⟩,q⟩
theorem Nq{g:Int->Int->Bool}
  (rule:∀(i j:Int) (t u:Tok) (s:ab) (Q:aa->ab->Prop) (E:aa->ab->Prop),Q (.bool (g i j)) s->ag (model X.prog X.w) X.A (f (.int i t) (.int j u)) Q E s):
  OpR X f (rI0 λi j=>.bl (g i j)):=by
 intro pins s σ H x y v u Q I rx ry h;obtain⟨i,j,rfl,rfl,q⟩:=h;obtain⟨t,rfl⟩:=rx;obtain⟨t',rfl⟩:=ry;exact rule i j t t' s _ _ ⟨.bl (g i j),H,I,rfl,q⟩
def Qj(i j:Int):Prop:=0<j/\j<1073741824
def Ug(i j:Int):Prop:=0<=j/\j<=1000000/\i.natAbs<2 ^ 64
def Nr(i j:Int):Prop:=(-(2 ^ 64)<i/\i<2 ^ 64)\/(-(2 ^ 64)<j/\j<2 ^ 64)
theorem Nr.ok{i j:Int}(h:Nr i j):IntMulOk i j:=by
 rcases h with ⟨h1,h2⟩|⟨h1,h2⟩
 ·exact .of_left (mw h1 h2)
 ·exact .of_right (mw h1 h2)
theorem Qk:OpR X (bO .Add) (rI0 λi j=>.int (i+j)):=Ue λ_ _ _ _ _ _ _ q=>add_int q
theorem Ql:OpR X (bO .Sub) (rI0 λi j=>.int (i - j)):=Ue λ_ _ _ _ _ _ _ q=>sub_int q
theorem Qm:OpR X (bO .Mult) (rI Nr λi j=>.int (i * j)):=opI λ_ _ _ _ _ _ _ hc q=>mul_int q hc.ok
theorem Nt:OpR X (bO .FloorDiv) (rI Qj λi j=>.int (i / j)):=opI λi j _ _ _ _ _ hc q=>by have h1:(0:Int)<j:=hc.1;have h2:j<1073741824:=hc.2;exact floordiv_int (by omega) (by rw[Int.fdiv_eq_ediv_of_nonneg i (by omega)];exact q) (.inl (PyProof.noPylong_small (by omega)))
theorem Qn:OpR X (bO .Mod) (rI (λ_ j=>0<j) λi j=>.int (i % j)):=opI λi j _ _ _ _ _ hc q=>by have h1:(0:Int)<j:=hc;exact mod_int' (by omega) (by rw[Int.fmod_eq_emod_of_nonneg i (by omega)];exact q)
theorem Qo:OpR X (bO .Pow) (rI Ug λi j=>.int (i ^ j.toNat)):=opI λ_ _ _ _ _ _ _ hc q=>pow_int_small hc.1 hc.2.1 hc.2.2 q
end
def Ks:V->V->Bool
 |.non,.non=>true|.non,.int _=>true|.int _,.non=>true|.non,.bl _=>true|.bl _,.non=>true|.non,.str _=>true|.str _,.non=>true
 |.int _,.int _=>true|.bl _,.bl _=>true|.str _,.str _=>true|.byt _,.byt _=>true
 |.int _,.str _=>true|.str _,.int _=>true|.bl _,.str _=>true|.str _,.bl _=>true
 |_,_=>false
def rEq:R2:=λx y H Q=>Ks x y=true/\Q (.bl (decide (x=y))) H
def rNe:R2:=λx y H Q=>Ks x y=true/\Q (.bl (!decide (x=y))) H
theorem HV{i j:Int}:decide (V.int i=V.int j)=(i==j):=by rw[cE];simp
theorem Kt{i j:Bool}:decide (V.bl i=V.bl j)=(i==j):=by rw[cE];simp
theorem HW{i j:Str}:decide (V.str i=V.str j)=(i==j):=by rw[cE];simp
theorem HX{i j:Array UInt8}:decide (V.byt i=V.byt j)=(i.toList==j.toList):=by rw[cE];cases i;cases j;simp
variable{op':eE}{r':R2}
section
variable{X:Cx}{a b c:Expr}{ta tb tc:TE}{pos:Pos}
theorem qm{H:Hp}{s:ab}{Q:VK}{k k':Bool}(I:Inv X pins σ H s)(q:Q (.bl k) H)(e:k=k'):EP X pins σ Q (.bool k') s:=by subst e;exact⟨.bl k,H,I,rfl,q⟩
theorem Uh:OpR X (aV .Eq) rEq:=by
 intro pins s σ H x y v u Q I rx ry h;obtain⟨hs,q⟩:=h;cases x with
 |non=>
  cases rx;cases y with
  |non=>cases ry;exact nE (qm I q (by simp))
  |bl j=>cases ry;exact nF (qm I q (by simp))
  |int j=>obtain⟨t',rfl⟩:=ry;exact nQ (qm I q (by simp))
  |str j=>obtain⟨t',rfl⟩:=ry;exact nR (qm I q (by simp))
  |_=>exact ao (show false=true from hs) aT
 |bl i=>
  cases rx;cases y with
  |non=>cases ry;exact nG (qm I q (by simp))
  |bl j=>cases ry;exact eq_bool (qm I q Kt)
  |str j=>obtain⟨t',rfl⟩:=ry;exact nH (qm I q (by simp))
  |_=>exact ao (show false=true from hs) aT
 |int i=>
  obtain⟨t,rfl⟩:=rx;cases y with
  |non=>cases ry;exact nS (qm I q (by simp))
  |int j=>obtain⟨t',rfl⟩:=ry;exact eq_int (qm I q HV)
  |str j=>obtain⟨t',rfl⟩:=ry;exact nT (qm I q (by simp))
  |_=>exact ao (show false=true from hs) aT
 |str i=>
  obtain⟨t,rfl⟩:=rx;cases y with
  |non=>cases ry;exact nU (qm I q (by simp))
  |bl j=>cases ry;exact nI (qm I q (by simp))
  |int j=>obtain⟨t',rfl⟩:=ry;exact nV (qm I q (by simp))
  |str j=>obtain⟨t',rfl⟩:=ry;exact eq_str (qm I q HW)
  |_=>exact ao (show false=true from hs) aT
 |byt i=>
  obtain⟨t,rfl⟩:=rx;cases y with
  |byt j=>obtain⟨t',rfl⟩:=ry;exact W.eq_bytes (qm I q HX)
  |_=>exact ao (show false=true from hs) aT
 |_=>cases y<;>exact ao (show false=true from hs) aT
theorem Ui:OpR X (aV .NotEq) rNe:=by
 intro pins s σ H x y v u Q I rx ry h;obtain⟨hs,q⟩:=h;cases x with
 |non=>
  cases rx;cases y with
  |non=>cases ry;exact nJ (qm I q (by simp))
  |bl j=>cases ry;exact nL (qm I q (by simp))
  |int j=>obtain⟨t',rfl⟩:=ry;exact nW (qm I q (by simp))
  |str j=>obtain⟨t',rfl⟩:=ry;exact nX (qm I q (by simp))
  |_=>exact ao (show false=true from hs) aT
 |bl i=>
  cases rx;cases y with
  |non=>cases ry;exact nM (qm I q (by simp))
  |bl j=>cases ry;exact ne_bool (qm I q (bj not Kt))
  |str j=>obtain⟨t',rfl⟩:=ry;exact nN (qm I q (by simp))
  |_=>exact ao (show false=true from hs) aT
 |int i=>
  obtain⟨t,rfl⟩:=rx;cases y with
  |non=>cases ry;exact nY (qm I q (by simp))
  |int j=>obtain⟨t',rfl⟩:=ry;exact ne_int (qm I q (bj not HV))
  |str j=>obtain⟨t',rfl⟩:=ry;exact nZ (qm I q (by simp))
  |_=>exact ao (show false=true from hs) aT
 |str i=>
  obtain⟨t,rfl⟩:=rx;cases y with
  |non=>cases ry;exact n4 (qm I q (by simp))
  |bl j=>cases ry;exact nO (qm I q (by simp))
  |int j=>obtain⟨t',rfl⟩:=ry;exact n8 (qm I q (by simp))
  |str j=>obtain⟨t',rfl⟩:=ry;exact ne_str (qm I q (bj not HW))
  |_=>exact ao (show false=true from hs) aT
 |byt i=>
  obtain⟨t,rfl⟩:=rx;cases y with
  |byt j=>obtain⟨t',rfl⟩:=ry;exact W.ne_bytes (qm I q (bj not HX))
  |_=>exact ao (show false=true from hs) aT
 |_=>cases y<;>exact ao (show false=true from hs) aT
theorem Uj:OpR X (aV .Lt) (rI0 λi j=>.bl (decide (i<j))):=Nq λ_ _ _ _ _ _ _ q=>lt_int q
theorem Uk:OpR X (aV .LtE) (rI0 λi j=>.bl (decide (i<=j))):=Nq λ_ _ _ _ _ _ _ q=>le_int q
theorem Ul:OpR X (aV .Gt) (rI0 λi j=>.bl (decide (j<i))):=Nq λ_ _ _ _ _ _ _ q=>gt_int q
theorem Um:OpR X (aV .GtE) (rI0 λi j=>.bl (decide (j<=i))):=Nq λ_ _ _ _ _ _ _ q=>ge_int q
theorem Qp:OpR X (aV .Is) (λx y H Q=>y=.non/\Q (.bl (decide (x=.non))) H):=by
 intro pins s σ H x y v u Q I rx ry h;obtain⟨rfl,q⟩:=h;cases ry;refine is_none_gen (qm I q ?_);cases x<;>first
  |(cases rx;rfl)
  |(obtain⟨t,rfl⟩:=rx;rfl)
theorem Nu:OpR X (aV .IsNot) (λx y H Q=>y=.non/\Q (.bl (!decide (x=.non))) H):=by
 intro pins s σ H x y v u Q I rx ry h;obtain⟨rfl,q⟩:=h;cases ry;refine isnot_none_gen (qm I q ?_);cases x<;>first
  |(cases rx;rfl)
  |(obtain⟨t,rfl⟩:=rx;rfl)
theorem Nv(ho:OpR X (aV op) r)(ha:PE X a ta)(hb:PE X b tb)(hm:dZ op b=false):PE X (.Compare a [op] [b] pos) (tOp r ta tb):=by intro pins s σ H Q I h;exact wpAny_Compare1 (Qi ha hb I h λv u s2 x y H2 I2 rx ry q=>ho pins s2 σ H2 x y v u Q I2 rx ry q) hm
def Ku(t:TE):TT:=λσ H Q=>t σ H λx H'=>∃k,x=.bl k/\Q k H'
theorem Nw(ho:OpR X (aV op) r)(ha:PE X a ta)(hb:PE X b tb)(hm:dZ op b=false):PT X (.Compare a [op] [b] pos) (Ku (tOp r ta tb)):=by
 intro pins s σ H Q I h;refine j5 (thn (ha pins s σ H _ I h) λv s1 ⟨x,H1,I1,r1,q1⟩=>thn (hb pins s1 σ H1 _ I1 q1) λu s2 ⟨y,H2,I2,r2,q2⟩=>
  thn (ho pins s2 σ H2 x y v u _ I2 r1 r2 q2) λc s3 ⟨z,H3,I3,r3,k,e,q3⟩=>?_) hm
 subst e;cases r3;exact cq ⟨H3,I3,q3⟩
def GE(r r':R2)(ta tb tc:TE):TE:=λσ H Q=>ta σ H λx H1=>tb σ H1 λy H2=>r x y H2 λz H3=>∃k,z=.bl k/\
 (if k=true then tc σ H3 λw' H4=>r' y w' H4 Q else Q (.bl false) H3)
theorem Kv(ho:OpR X (aV op) r)(ho':OpR X (aV op') r')(ha:PE X a ta)(hb:PE X b tb)(hc:PE X c tc)
  (hm:lastMarks [op,op'] [b,c]=false:=by with_unfolding_all rfl):PE X (.Compare a [op,op'] [b,c] pos) (GE r r' ta tb tc):=by
 intro pins s σ H Q I h;refine Compare_chain (thn (ha pins s σ H _ I h) λv s1 ⟨x,H1,I1,r1,q1⟩=>chain_link (thn (hb pins s1 σ H1 _ I1 q1) λu s2 ⟨y,H2,I2,r2,q2⟩=>
  thn (ho pins s2 σ H2 x y v u _ I2 r1 r2 q2) λd s3 ⟨z,H3,I3,r3,k,e,q3⟩=>?_)) hm
 subst e;cases r3;refine cq ?_;cases k with
 |false=>exact ite_ff ⟨.bl false,H3,I3,rfl,q3⟩
 |true=>exact ite_tt (chain_last (thn (hc pins s3 σ H3 _ I3 q3) λw' s4 ⟨z',H4,I4,r4,q4⟩=>ho' pins s4 σ H4 y z' u w' Q I4 r2 r4 q4))
theorem Kw(ho:OpR X (aV op) r)(ho':OpR X (aV op') r')(ha:PE X a ta)(hb:PE X b tb)(hc:PE X c tc)
  (hm:lastMarks [op,op'] [b,c]=false:=by with_unfolding_all rfl):PT X (.Compare a [op,op'] [b,c] pos) (Ku (GE r r' ta tb tc)):=by
 intro pins s σ H Q I h;refine isTrue_chain (thn (ha pins s σ H _ I h) λv s1 ⟨x,H1,I1,r1,q1⟩=>test_link (thn (hb pins s1 σ H1 _ I1 q1) λu s2 ⟨y,H2,I2,r2,q2⟩=>
  thn (ho pins s2 σ H2 x y v u _ I2 r1 r2 q2) λd s3 ⟨z,H3,I3,r3,k,e,q3⟩=>?_)) hm
 subst e;cases r3;refine cq ?_;cases k with
 |false=>obtain⟨k',e',q'⟩:=q3;cases e';exact ite_ff ⟨H3,I3,q'⟩
 |true=>refine ite_tt (test_last (thn (hc pins s3 σ H3 _ I3 q3) λw' s4 ⟨z',H4,I4,r4,q4⟩=>thn (ho' pins s4 σ H4 y z' u w' _ I4 r2 r4 q4) λd' s5 ⟨z2,H5,I5,r5,k2,e2,q5⟩=>?_));subst e2;cases r5;exact cq ⟨H5,I5,q5⟩
theorem Ao:(ay:Nat)<2 ^ 63:=by rw[bK];decide
theorem GF:OpR X (bO .Add) (λx y H Q=>∃i j,x=.str i/\y=.str j/\i.length+j.length<=ay/\Q (.str (i++j)) H):=by intro pins s σ H x y v u Q I rx ry h;obtain⟨i,j,rfl,rfl,hz,q⟩:=h;obtain⟨t,rfl⟩:=rx;obtain⟨t',rfl⟩:=ry;exact add_str (λt' tk=>⟨.str (i++j),H,I.tok _,⟨_,rfl⟩,q⟩) hz
theorem vals1{x:V}(r:Vals [x] us):∃u,us=[u]/\RelV x u:=by
 cases r with
 |cons r1 r2=>cases r2;exact⟨_,rfl,r1⟩
theorem vals2{x:V}(r:Vals [x,y] us):∃u w',us=[u,w']/\RelV x u/\RelV y w':=by
 cases r with
 |cons r1 r2=>
  cases r2 with
  |cons r3 r4=>cases r4;exact⟨_,_,rfl,r1,r3⟩
theorem Jt:rY X (.type "int") (λxs H Q=>(∃i,xs=[.int i]/\Q (.int i) H)\/∃k,xs=[.bl k]/\Q (.int (if k then 1 else 0)) H):=by
 intro pins s σ H xs us Q I r h;rcases h with ⟨i,rfl,q⟩|⟨k,rfl,q⟩
 ·obtain⟨u,rfl,t,rfl⟩:=vals1 r;exact call_int_int ⟨.int i,H,I,⟨_,rfl⟩,q⟩
 ·obtain⟨u,rfl,r1⟩:=vals1 r;cases r1;exact call_int_bool ⟨.int (if k then 1 else 0),H,I.tok _,⟨_,rfl⟩,q⟩
theorem Ex:rY X (.type "str") (λxs H Q=>∃i,xs=[.int i]/\i.natAbs.log2<1920/\Q (.str (toString i)) H):=by intro pins s σ H xs us Q I r h;obtain⟨i,rfl,hz,q⟩:=h;obtain⟨u,rfl,t,rfl⟩:=vals1 r;exact PySem.P.str_of_int hz ⟨.str _,H,I.tok _,⟨_,rfl⟩,q⟩
end
structure GH(h:Heap)(x dx C:Addr)(mA:Str->Option aa):Prop where
 obj:h.get? x=some (dg C dx)
 ns:h.Ns1 dx mA
 ne:dx≠x
variable{dx:Addr}{mA:Str->Option aa}
theorem Ju{h:Heap}(n:h.Ns1 dx mA):∃od,h.get? dx=some od/\∀name,ip name od=some (mA name):=by
 obtain⟨o,es,ep,ho,hd,hk,_,hm⟩:=n;refine⟨o,ho,λname=>?_⟩;have e:=hm name;unfold nsFind findBy at e;rw[<-Array.find?_toList]at e;unfold ip;rw[hd];dsimp only;split
 ·rename_i y q;rw[q]at e;exact bj some e
 ·rename_i q;rw[q]at e;have a:es.toList.any (·.refKey)=false:=by rw[kN];intro y hy;obtain⟨z,t,hkey⟩:=hk y (Array.mem_toList_iff.mp hy);simp[DictEntry.refKey,hkey]
  have a':¬es.toList.any (·.refKey)=true:=by rw[a];exact aT
  rw[aj a'];exact bj some e
variable{C:Addr}
theorem GH.look{h:Heap}{x:Addr}(I:GH h x dx C mA):∃od,W.InstAt h x (dg C dx) C (some od)/\∀name,ip name od=some (mA name):=
 let ⟨od,ho,hl⟩:=Ju I.ns
 ⟨od,⟨I.obj,rfl,rfl,ho⟩,hl⟩
variable{R:cR->ab->Prop}{kw:List (Str×aa)}
section
variable{prog:ar}{w:aq}{A:av}{E:aa->ab->Prop}{s:ab}{K:ak}{x dx C f:Addr}{mA:Str->Option aa}{name:Str}{v:aa}
theorem get_map{expr:Bool}(X:K.In s.heap)(I:GH s.heap x dx C mA)(hg:ie K C name=true)(hh:jB K C=true)
  (ha:bT K (.ref C) name=some none) (hv:mA name=some v) (hv':W.handedIn v=true) (h:Q v { s with toks:=s.toks+1 }):
  ag (model prog w) A (getAttr (.ref x) name expr) Q E s:=by
 obtain⟨od,J,hl⟩:=I.look;exact W.get_value X J (ji hg).1 (W.findObj_own hh ha rfl (by rw[hl,hv])) hv' h
theorem Kx{pl:Sem Bool}{Q:aa×List aa->ab->Prop}(X:K.In s.heap)(I:GH s.heap x dx C mA)(hg:ie K C name=true)
  (hf:bT K (.ref C) name=some (some (.ref f))) (ht:ir K (.ref f)=true) (hv:mA name=none) (h:Q (.ref f,[.ref x]) s):
  ag (model prog w) A (getMethod (.ref x) name pl) Q E s:=by
 obtain⟨od,J,hl⟩:=I.look;exact W.method_fn X J (ji hg).1 (ji hg).2 hf (beq_iff_eq.mp ht) (by show (ip name od).map (·.isSome)=some false;rw[hl,hv];rfl) h
theorem Nx{ns:List Str}{Q:Unit->ab->Prop}(X:K.In s.heap)(I:GH s.heap x dx C mA)
  (hs:bT K (.ref C) "__setattr__" = some (some (.builtin "object.__setattr__"))) (hp:mU K C=true) (ht:jK K C name=some none) (hh:jB K C=true)
  (hw:js mA ns) (hsz:ns.length<=ay)
  (h:∀h',GH h' x dx C (λy=>if y=name then some v else mA y)->cu dx s.heap h'->Q () { s with heap:=h',toks:=s.toks+2 }):
  ag (model prog w) A (setAttr (.ref x) name v) Q E s:=by
 obtain⟨od,J,hl⟩:=I.look;refine W.set_plain X J hs (W.osa_open (s:={ s with toks:=s.toks+1 }) (r:=none) X J hp ht λb=>?_);obtain⟨cd,hc,hd'⟩:=W.any_some hh;have hx:s.heap.get? x=some ⟨.ref C,some dx,.plain,#[]⟩:=I.obj;refine ae (ai (ae (ae (wpAny_loadPart hx (ae (W.Looks.here (s:={ s with toks:=s.toks+1 }) (W.looks_clsIn X hc) ?_))))));rw[hd'];refine ai (a:=some dx) (ae (ai (ae ?_)));refine wpAny_nsSet1 (s:={ s with toks:=s.toks+1 }) I.ns λh' hn2 hs2=>?_;obtain⟨oD,esD,epD,hoD,hdD,hcD⟩:=hn2.count (o7 name v hw);refine ae (wpAny_lookBehind hoD (by rw[hdD];exact pastItsLine_dict (bc hcD (by rw[aB];omega))) ?_);exact ai (h _ ⟨(hs2.2 _ (cQ I.ne)).trans I.obj,hn2,I.ne⟩ hs2)
theorem Ky{vs:List aa}(X:K.In s.heap)(hm:jL K C=true)
  (hi:bT K (.ref C) "__init__" = some (some (.ref f))) (hf:W.typeIn K (.ref f)=some (.type "function"))
  (h:bI (model prog w) (A.under (.builtin "type.__call__" ⟨.ref C::vs,kw⟩)) (.call (.ref f) ⟨.ref (s.heap.objs.size+1)::vs,kw⟩) (W.InitBack (s.heap.objs.size+1) R)
   { s with heap:=(s.heap.push cK).push (dg C s.heap.objs.size) }):
  bI (model prog w) A (.call (.ref C) ⟨vs,kw⟩) R s:=by
 obtain⟨hh,g,d,t,os⟩:=s;exact mV (jJ X hm) (l9 X hi) (λself=>W.bind_fn X self hf) (.inl rfl) h
theorem Jv(X:K.In s.heap)(hm:jL K C=true)
  (hi:bT K (.ref C) "__init__" = some (some (.builtin "object.__init__")))
  (hb:∀self,W.Looks (model prog w) s.heap (bindSpecial (.builtin "object.__init__") self) (.builtin "object.__init__", [self]))
  (h:bI (model prog w) (A.under (.builtin "type.__call__" ⟨[.ref C],[]⟩)) (.call (.builtin "object.__init__") ⟨[.ref (s.heap.objs.size+1)],[]⟩) (W.InitBack (s.heap.objs.size+1) R)
   { s with heap:=(s.heap.push cK).push (dg C s.heap.objs.size) }):
  bI (model prog w) A (.call (.ref C) ⟨[],[]⟩) R s:=by
 obtain⟨hh,g,d,t,os⟩:=s;exact mV (jJ X hm) (l9 X hi) hb (.inr ⟨rfl,rfl⟩) h
end
def wz(f:Str)(v:V):List (Str×V)->List (Str×V)
 |[]=>[(f,v)]
 |(g,x)::r=>if g=f then (g,v)::r else (g,x)::wz f v r
theorem AV(f g:Str)(v:V):∀fs:List (Str×V),(wz f v fs).lookup g=if g=f then some v else fs.lookup g
 |[]=>by
  show cv g [(f,v)]=_;by_cases h:g=f
  ·have hb:(g==f)=true:=beq_iff_eq.mpr h;simp only[cv,hb,ah h]
  ·have hb:(g==f)=false:=beq_eq_false_iff_ne.mpr h;simp only[cv,hb,aj h]
 |(k,x)::r=>by
  have ih:=AV f g v r;rw[show wz f v ((k,x)::r)=(if k=f then (k,v)::r else (k,x)::wz f v r) from rfl];by_cases hk:k=f
  ·rw[ah hk];by_cases h:g=k
   ·have hb:(g==k)=true:=beq_iff_eq.mpr h;simp only[cv,hb,ah (h.trans hk)]
   ·have hb:(g==k)=false:=beq_eq_false_iff_ne.mpr h;simp only[cv,hb,aj (λe:g=f=>h (e.trans hk.symm))]
  ·rw[aj hk];by_cases h:g=k
   ·have hb:(g==k)=true:=beq_iff_eq.mpr h;simp only[cv,hb,aj (λe:g=f=>hk (h.symm.trans e))]
   ·have hb:(g==k)=false:=beq_eq_false_iff_ne.mpr h;simp only[cv,hb];exact ih
theorem Ap(f:Str)(v:V):∀fs:List (Str×V),f∈(wz f v fs).map (·.1)/\∀g,g∈fs.map (·.1)->g∈(wz f v fs).map (·.1)
 |[]=>⟨by simp[wz],λg h=>by simp at h⟩
 |(k,x)::r=>by
  obtain⟨i1,i2⟩:=Ap f v r;rw[show wz f v ((k,x)::r)=(if k=f then (k,v)::r else (k,x)::wz f v r) from rfl];by_cases hk:k=f
  ·rw[ah hk];subst hk;exact⟨by simp,λg h=>by simpa using h⟩
  ·rw[aj hk];refine⟨?_,λg h=>?_⟩
   ·rw[aG];exact aO _ i1
   ·rw[aG]at h ⊢;rcases aH.mp h with e|e
    ·exact aH.mpr (.inl e)
    ·exact aO _ (i2 g e)
theorem AW(f:Str)(v:V):∀fs:List (Str×V),(wz f v fs).length<=fs.length+1
 |[]=>by simp[wz]
 |(k,x)::r=>by
  have ih:=AW f v r;rw[show wz f v ((k,x)::r)=(if k=f then (k,v)::r else (k,x)::wz f v r) from rfl];by_cases hk:k=f
  ·rw[ah hk,aB,aB];omega
  ·rw[aj hk,aB,aB];omega
theorem xT.some_of{v:V}{o:Option aa}(r:xT (some v) o):∃u,o=some u/\RelV v u:=by
 cases o with
 |none=>exact(show False from r).elim
 |some u=>exact⟨u,rfl,r⟩
theorem xT.none_of{o:Option aa}(r:xT none o):o=none:=by
 cases o with
 |none=>rfl
 |some u=>exact(show False from r).elim
theorem Jw{v:V}(r:RelV v u):W.handedIn u=true:=by
 cases v with
 |non=>cases (show u=Value.none from r);rfl
 |bl b=>cases (show u=Value.bool b from r);rfl
 |int i=>obtain⟨t,e⟩:=(show ∃t,u=Value.int i t from r);cases e;rfl
 |str x=>obtain⟨t,e⟩:=(show ∃t,u=Value.str x t from r);cases e;rfl
 |byt b=>obtain⟨t,e⟩:=(show ∃t,u=Value.bytes b t from r);cases e;rfl
 |flt b=>obtain⟨t,e⟩:=(show ∃t,u=Value.float b t from r);cases e;rfl
 |ref a=>cases (show u=Value.ref a from r);rfl
 |ty n=>cases (show u=Value.type n from r);rfl
section
variable{P:ar}{w:aq}{H H':Hp}{h h':Heap}{a C dx:Addr}{fs fs':List (Str×V)}
theorem zC(hok:HOk P w H h)(e:H a=some (.ins C dx fs)):∃mA,GH h a dx C mA/\(∀f,xT (fs.lookup f) (mA f))/\js mA (fs.map (·.1))/\fs.length<=1000/\H dx=some (.own a):=by obtain⟨d,z,ne,ob,mA,n,r,q⟩:=(show qL P w H h a (.ins C dx fs) from hok a _ e);exact⟨mA,⟨ob,n,ne⟩,r,q,z,d⟩
end
structure Cls(K:ak)(C:Addr):Prop where
 pg:ie K C Str.empty=true
 hd:jB K C=true
 po:mU K C=true
 sa:bT K (.ref C) "__setattr__" = some (some (.builtin "object.__setattr__"))
theorem Cls.get{K:ak}(c:Cls K C)(f:Str):ie K C f=true:=c.pg
def uX(K:ak)(C:Addr)(f:Str):Prop:=bT K (.ref C) f=some none
theorem uX.taker{K:ak}{f:Str}(n:uX K C f):jK K C f=some none:=by unfold jK;rw[show bT K (.ref C) f=some none from n];rfl
structure Meth(K:ak)(C:Addr)(m:Str)(f:Addr):Prop where
 at_:bT K (.ref C) m=some (some (.ref f))
 fn:ir K (.ref f)=true
 kp:cO K (.ref f)=true
section
variable{X:Cx}{pins:List (Addr×Obj)}{σ:St}{H:Hp}{s:ab}{a C dx:Addr}{fs:List (Str×V)}{f:Str}{v:V}{A:av}{E:aa->ab->Prop}
theorem GK{b:Bool}(I:Inv X pins σ H s)(e:H a=some (.ins C dx fs))(c:Cls X.K C)(n:uX X.K C f)(l:fs.lookup f=some v)
  (h:∀u s',Inv X pins σ H s'->RelV v u->Q u s'):ag (model X.prog X.w) A (getAttr (.ref a) f b) Q E s:=by
 obtain⟨mA,O,r,_,_,_⟩:=zC I.hok e;obtain⟨u,hu,ru⟩:=xT.some_of (v:=v) (o:=mA f) (by rw[<-l];exact r f);exact get_map I.kIn O (c.get f) c.hd n hu (Jw ru) (h u _ (I.tok _) ru)
theorem BR{m:Str}{g:Addr}{pl:Sem Bool}{Q:aa×List aa->ab->Prop}(I:Inv X pins σ H s)(e:H a=some (.ins C dx fs))(c:Cls X.K C)(k:Meth X.K C m g)(l:fs.lookup m=none)
  (h:Q (.ref g,[.ref a]) s):ag (model X.prog X.w) A (getMethod (.ref a) m pl) Q E s:=by
 obtain⟨mA,O,r,_,_,_⟩:=zC I.hok e;have hn:mA m=none:=xT.none_of (by rw[<-l];exact r m);exact Kx I.kIn O (c.get m) k.at_ k.fn hn h
theorem GL{Q:Unit->ab->Prop}(I:Inv X pins σ H s)(e:H a=some (.ins C dx fs))(c:Cls X.K C)(n:uX X.K C f)(hl:fs.length<1000)(ry:RelV y u)
  (h:∀s',Inv X pins σ (upd H a (.ins C dx (wz f y fs))) s'->Q () s'):ag (model X.prog X.w) A (setAttr (.ref a) f u) Q E s:=by
 obtain⟨mA,O,r,wi,_,ho⟩:=zC I.hok e;have hz:(fs.map (·.1)).length<=ay:=by rw[af,bK];omega
 refine Nx I.kIn O c.sa c.po n.taker c.hd wi hz λh' O' sb=>h _ ?_;have hd:∃o,h'.get? dx=some o:=let ⟨o,_,_,e',_⟩:=O'.ns;⟨o,e'⟩;refine I.write (x:=a) (e:=dx) (by rw[e];exact True.intro) (.inr ho) (λb q hb z=>(sb.2 b hb).trans z) hd ?_;refine⟨by rw[pM O.ne];exact ho,?_,O.ne,O'.obj,_,O'.ns,λg=>?_,λg hg=>?_⟩
 ·have:=AW f y fs;omega
 ·show xT ((wz f y fs).lookup g) (if g=f then some u else mA g);rw[AV];by_cases q:g=f
  ·rw[ah q,ah q];exact ry
  ·rw[aj q,aj q];exact r g
 ·by_cases q:g=f
  ·rw[q];exact(Ap f y fs).1
  ·refine(Ap f y fs).2 g (wi g λz=>hg ?_);show (if g=f then some u else mA g)=none;rw[aj q];exact z
theorem Inv.made(I:Inv X pins σ H s):Inv X pins σ (upd (upd H s.heap.objs.size (.own (s.heap.objs.size+1))) (s.heap.objs.size+1) (.ins C s.heap.objs.size []))
  { s with heap:=(s.heap.push cK).push (dg C s.heap.objs.size) }:=by
 have e1:(s.heap.push cK).get? s.heap.objs.size=some cK:=aU s.heap rfl;have e2:((s.heap.push cK).push (dg C s.heap.objs.size)).get? (s.heap.objs.size+1)=some (dg C s.heap.objs.size):=by
  have:=aU (s.heap.push cK) (o:=dg C s.heap.objs.size) rfl
  rwa [bZ]at this
 have e3:(s.heap.push cK).Ns s.heap.objs.size (λ_=>none):=⟨cK,#[],_,e1,rfl,(λe he=>ao he (by simp)),λ_=>rfl⟩;have I1:=I.laid (a:=s.heap.objs.size) (o:=.own (s.heap.objs.size+1)) (h':=s.heap.push cK) (t':=s.toks) (λb u q=>aA _ q) (aC _) ⟨_,e1⟩;refine I1.laid (a:=s.heap.objs.size+1) (o:=.ins C s.heap.objs.size []) (t':=s.toks) (λb u q=>aA _ q) (mJ (bZ _ _)) ?_;have ne:s.heap.objs.size≠s.heap.objs.size+1:=aI (cD _);refine⟨by rw[pM ne,pK],bR _,ne,e2,λ_=>none,(Heap.Ns1.of_empty e3).at λo q=>aA _ q,λ_=>True.intro,λy hy=>ao rfl hy⟩
theorem Ny{prog:ar}{w:aq}{env:Env}{f:Str}{s:ab}(hb:df e f env (eval e env)=eval e env)
  (h:ag (model prog w) A (eval e env) (λo s₁=>ag (model prog w) A (getAttr o f true) Q E s₁) E s):ag (model prog w) A (eval (.Attribute e f pos) env) Q E s:=
 Attribute_any_ h (by rw[arm_eval_Attribute,hb])
end
def VM(K:ak)(ta:TE)(f:Str):TE:=λσ H Q=>ta σ H λx H1=>∃a C dx fs v,x=.ref a/\H1 a=some (.ins C dx fs)/\Cls K C/\uX K C f/\fs.lookup f=some v/\Q v H1
def Uo(K:ak)(ta tv:TE)(f:Str):TS:=λD σ H=>tv σ H λy H1=>ta σ H1 λx H2=>∃a C dx fs,x=.ref a/\H2 a=some (.ins C dx fs)/\Cls K C/\uX K C f/\fs.length<1000/\
 D.nx σ (upd H2 a (.ins C dx (wz f y fs)))
section
variable{X:Cx}{o e value:Expr}{f:Str}{pos pos' tpos:Pos}{ta tv:TE}
theorem Qq(he:PE X e ta)(hb:df e f X.env (eval e X.env)=eval e X.env):PE X (.Attribute e f pos) (VM X.K ta f):=by intro pins s σ H Q I h;refine Ny hb (thn (he pins s σ H _ I h) λu s1 zz=>?_);obtain⟨x,H1,I1,rx,a,C,dx,fs,v,ex,ea,c,n,l,q⟩:=zz;subst ex;obtain rfl:u=Value.ref a:=rx;exact GK I1 ea c n l λu' s2 I2 ru=>⟨v,H1,I2,ru,q⟩
theorem Qr(ha:PE X o ta)(hv:PE X value tv)(hs:cy value (some (.Attribute o f pos')) pos.line X.env=pure false):PS X (.Assign [.Attribute o f pos'] value pos) (Uo X.K ta tv f):=by intro pins s σ H D I h;refine plainObj_wpAny_Assign_Attribute (thn (hv pins s σ H _ I h) λu s1 ⟨y,H1,I1,ry,q⟩=>thn (ha pins s1 σ H1 _ I1 q) λov s2 zz=>?_) hs;obtain⟨x,H2,I2,rx,a,C,dx,fs,ex,ea,c,n,l,q2⟩:=zz;subst ex;obtain rfl:ov=Value.ref a:=rx;exact GL I2 ea c n l ry λs3 I3=>⟨σ,_,I3,q2⟩
end
section
variable{X:Cx}{pins:List (Addr×Obj)}{σ:St}{H:Hp}{s:ab}{A:av}{E:aa->ab->Prop}{Q:aa->ab->Prop}{c:aa}{b:Bool}
inductive Bu(K:ak) (H:Hp):V->aa->Prop where
 |non:Bu K H .non (.type "NoneType")
 |bl (x:Bool):Bu K H (.bl x) (.type "bool")
 |int (i:Int):Bu K H (.int i) (.type "int")
 |str (x:Str):Bu K H (.str x) (.type "str")
 |flt (x:UInt64):Bu K H (.flt x) (.type "float")
 |lst {a:Addr} {xs:List V} (e:H a=some (.lst xs)):Bu K H (.ref a) (.type "list")
 |frz {a:Addr} {o:Obj} {xs:List V} (e:H a=some (.frz o (.lst xs))):Bu K H (.ref a) (.type "list")
 |tup {a:Addr} {xs:List V} (e:H a=some (.tup xs)):Bu K H (.ref a) (.type "tuple")
 |dK {a:Addr} {kvs:List (Key×V)} (e:H a=some (.dK kvs)):Bu K H (.ref a) (.type "dict")
 |dT {a:Addr} {kvs:List (List Key×V)} (e:H a=some (.dT kvs)):Bu K H (.ref a) (.type "dict")
 |ins {a C dx:Addr} {fs:List (Str×V)} (e:H a=some (.ins C dx fs)) (cl:Cls K C) (ha:bT K (.ref C) "__class__" = some (some (.builtin "object.__class__")))
   (hn:mW K (.builtin "object.__class__") "__get__" = some (some (.builtin "getset_descriptor.__get__"))) (htk:W.takesIn K (.builtin "object.__class__")=some true)
   (hm:W.mroIn K C (.type "object")=some true):Bu K H (.ref a) (.ref C)
theorem uS{x:V}{t:aa}(I:Inv X pins σ H s)(rx:RelV x u)(ty:Bu X.K H x t)(e:cj X.K t c=some b)(h:∀tk,Q (.bool b) { s with toks:=tk }):
  ag (model X.prog X.w) A (call (.builtin "isinstance") [u,c]) Q E s:=by
 cases ty with
 |non=>cases (show u=Value.none from rx);exact bS mX I.kIn True.intro e (λz=>nomatch z) h
 |bl y=>cases (show u=Value.bool y from rx);exact bS mY I.kIn True.intro e (λz=>nomatch z) h
 |int i=>obtain⟨t,q⟩:=(show ∃t,u=Value.int i t from rx);cases q;exact bS W.kitx_int I.kIn True.intro e (λz=>nomatch z) h
 |str y=>obtain⟨t,q⟩:=(show ∃t,u=Value.str y t from rx);cases q;exact bS W.kitx_str I.kIn True.intro e (λz=>nomatch z) h
 |flt y=>obtain⟨t,q⟩:=(show ∃t,u=Value.float y t from rx);cases q;exact bS W.kitx_float I.kIn True.intro e (λz=>nomatch z) h
 |@lst a xs ea=>cases (show u=Value.ref a from rx);obtain⟨_,_,n,_,h1⟩:=(show qL X.prog X.w H s.heap a (.lst xs) from I.hok a _ ea);exact bS f6 I.kIn ⟨_,h1,rfl⟩ e (λz=>nomatch z) h
 |@frz a ob xs ea=>cases (show u=Value.ref a from rx);obtain⟨_,_,_,n,_,h1⟩:=(show qL X.prog X.w H s.heap a (.frz ob (.lst xs)) from I.hok a _ ea);exact bS f6 I.kIn ⟨_,h1,rfl⟩ e (λz=>nomatch z) h
 |@tup a xs ea=>cases (show u=Value.ref a from rx);obtain⟨_,_,_,p⟩:=(show qL X.prog X.w H s.heap a (.tup xs) from I.hok a _ ea);obtain⟨o,h1,h2,_⟩:=p;exact bS jt I.kIn ⟨o,h1,h2⟩ e (λz=>nomatch z) h
 |@dK a kvs ea=>cases (show u=Value.ref a from rx);obtain⟨_,_,vs,_,p⟩:=(show qL X.prog X.w H s.heap a (.dK kvs) from I.hok a _ ea);obtain⟨o,es,ep,h1,h2,_⟩:=p;exact bS ia I.kIn ⟨o,h1,h2.1⟩ e (λz=>nomatch z) h
 |@dT a kvs ea=>cases (show u=Value.ref a from rx);obtain⟨_,_,xs,_,o,es,ep,h1,h2,_⟩:=(show qL X.prog X.w H s.heap a (.dT kvs) from I.hok a _ ea);exact bS ia I.kIn ⟨o,h1,h2.1⟩ e (λz=>nomatch z) h
 |@ins a C dx fs ea cl ha hn htk hm=>cases (show u=Value.ref a from rx);obtain⟨mA,O,_⟩:=zC I.hok ea;obtain⟨od,J,_⟩:=O.look;exact bS (W.kitx_own (cl.get _) cl.hd ha hn htk hm) I.kIn J e (λz=>nomatch z) h
end
structure rG(k:Nat)(A:av):Prop where
 hd:A.handled=none
 dp:A.depth+3 * k+5<recursionLimit
 un:A.units+16 * k+200<cLine
theorem rG.mono{k:Nat}{A:av}(r:rG k A)(h:j<=k):rG j A:=⟨r.hd,by have:=r.dp;omega,by have:=r.un;omega⟩
theorem rG.deeper{k:Nat}{A:av}(r:rG (k+1) A)(env:Env):rG k (A.deeper env):=
 ⟨r.hd,by have:=r.dp;show A.depth+1+3 * k+5<_;omega,by have:=r.un;show A.units+3+16 * k+200<_;omega⟩
theorem GN{A:av}:(A.under (.builtin "type.__call__" ⟨.ref C::us,kw⟩)).depth=A.depth+1:=by
 first|rfl|simp[ju,Code.weight,Code.isCreation,Code.isGuard,Code.isCaller,mZ,jv,guardIds]
theorem GO{A:av}:(A.under (.builtin "type.__call__" ⟨.ref C::us,kw⟩)).units=A.units+1:=by
 first|rfl|simp[ju,Code.cUnits,mZ,jv]
theorem rG.make{k:Nat}{A:av}(r:rG (k+1) A)(C:Addr)(us:List aa)(kw:List (Str×aa)):rG k (A.under (.builtin "type.__call__" ⟨.ref C::us,kw⟩)):=
 ⟨r.hd,by have:=r.dp;rw[GN];omega,by have:=r.un;rw[GO];omega⟩
theorem rG.depth{k:Nat}{A:av}(r:rG k A):A.depth<recursionLimit:=by have:=r.dp;omega
theorem rG.units{k:Nat}{A:av}(r:rG k A):A.units+64<cLine:=by have:=r.un;omega
def Dl:TA:=λ_ H Q=>Q [] H
def yW(ta:TE)(tr:TA):TA:=λσ H Q=>ta σ H λx H1=>tr σ H1 λxs H2=>Q (x::xs) H2
section
variable{X:Cx}{e:Expr}{es:List Expr}{te:TE}{t:TA}{pos:Pos}
theorem uv:PA X [] Dl:=λ_ _ _ _ H Q I h=>eQ ⟨[],H,I,.nil,h⟩
theorem rj(ha:PE X e te)(hr:PA X es t)(hs:aw (e::es) X.env=(false,eval e X.env)::aw es X.env:=by rfl):PA X (e::es) (yW te t):=by intro pos pins s σ H Q I h;rw[hs];show ag _ _ (spliced ((false,eval e X.env)::ba pos (aw es X.env))) _ _ s;refine dU (thn (ha pins s σ H _ I h) λu s1 zz=>?_);obtain⟨x,H1,I1,r1,q1⟩:=zz;exact thn (hr pos pins s1 σ H1 _ I1 q1) λus s2 ⟨xs,H2,I2,r2,q2⟩=>⟨x::xs,H2,I2,.cons r1 r2,q2⟩
def Up(t:TA):TE:=λσ H Q=>t σ H λxs H1=>xs.length<=ay/\∀p,H1 p=none->Q (.ref p) (upd H1 p (.tup xs))
def Uq(t:TA):TE:=λσ H Q=>t σ H λxs H1=>xs.length<=ay/\∀p,H1 p=none->Q (.ref p) (upd H1 p (.lst xs))
theorem Kz{x1}(h:PA X es t):PE X (.Tuple es x1 pos) (Up t):=by intro pins s σ H Q I hq;refine wpAny_Tuple_spliced (thn (h pos pins s σ H _ I hq) λus s1 ⟨xs,H1,I1,r,z,q⟩=>⟨by rw[<-r.length];exact z,?_⟩);have hf:H1 s1.heap.objs.size=none:=I1.hok.fresh (aC _);refine⟨.ref s1.heap.objs.size,upd H1 s1.heap.objs.size (.tup xs),I1.laid (t':=s1.toks) (λb u e=>aA _ e) (aC _) ?_,rfl,q _ hf⟩;exact⟨z,us,r,⟨_,aU _ rfl,rfl,_,rfl⟩⟩
theorem KA(h:PA X es t):PE X (.List es pos) (Uq t):=by intro pins s σ H Q I hq;refine wpAny_List_spliced (thn (h pos pins s σ H _ I hq) λus s1 ⟨xs,H1,I1,r,z,q⟩=>⟨by rw[<-r.length];exact z,?_⟩);have hf:H1 s1.heap.objs.size=none:=I1.hok.fresh (aC _);refine⟨.ref s1.heap.objs.size,upd H1 s1.heap.objs.size (.lst xs),I1.laid (t':=s1.toks) (λb u e=>aA _ e) (aC _) ?_,rfl,q _ hf⟩;exact⟨z,us,0,r,aU _ rfl⟩
end
abbrev Sp:=List V->Hp->VK->XK->Prop
abbrev CXT:=List Env->Hp->ab->XK->aa->ab->Prop
structure GP(P:ar)(w:aq)(K:ak)(mg:Str->Option aa)(base:Heap)(A:av)(outer:List Env)(s:ab)(H:Hp):Prop where
 frames:A.frames=some outer
 mod:Mod K mg base
 bs:∀b o,base.get? b=some o->s.heap.get? b=some o/\H b=none
 bsz:base.objs.size<=s.heap.objs.size
 funs:s.heap.FunFrames base outer
 frf:∀b∈frs outer,H b=none
 hok:HOk P w H s.heap
 bare:di s.gens
def CE(outer:List Env)(P:ar)(w:aq)(H:Hp)(s:ab)(Q:VK)(u:aa)(s':ab):Prop:=
 ∃v H',s'.os=s.os/\di s'.gens/\Un (frs outer) [] H H' s.heap s'.heap/\HOk P w H' s'.heap/\RelV v u/\Q v H'
def CR(CX:CXT)(outer:List Env)(P:ar)(w:aq)(H:Hp)(s:ab)(Q:VK)(E:XK)(r:cR)(s':ab):Prop:=
 match r with
 |.ok (.ret u)=>CE outer P w H s Q u s'
 |.ok _=>False
 |.error e=>CX outer H s E e s'
structure uw(P:ar)(w:aq)(K:ak)(mg:Str->Option aa)(base:Heap)(CX:CXT)(k:Nat)(f:Addr)(fd:bB)(ps:List Str)(sp:Sp):Prop where
 len:∀vs H Q E,sp vs H Q E->vs.length=ps.length
 run:∀(A:av) (outer:List Env) (s:ab) (H:Hp) (args:Args) (us:List aa) (vs:List V) (Q:VK) (E:XK),rG k A->GP P w K mg base A outer s H->fE s fd args (ps.zip us)->Vals vs us->sp vs H Q E->
  bI (model P w) A (.call (.ref f) args) (CR CX outer P w H s Q E) s
variable{mg:Str->Option aa}{base:Heap}{CX:CXT}{fd:bB}{ps:List Str}{sp:Sp}
theorem uw.imp{P:ar}{w:aq}{K:ak}{k:Nat}{f:Addr}{sp':Sp}(F:uw P w K mg base CX k f fd ps sp)
  (h:∀vs H Q E,sp' vs H Q E->sp vs H Q E):uw P w K mg base CX k f fd ps sp':=
 ⟨λvs H Q E q=>F.len vs H Q E (h _ _ _ _ q),λA outer s H args us vs Q E hr he hb hv hs=>F.run A outer s H args us vs Q E hr he hb hv (h _ _ _ _ hs)⟩
variable{outer:List Env}
theorem GP.make{P:ar}{w:aq}{K:ak}{A:av}{s:ab}{H:Hp}(e:GP P w K mg base A outer s H)(C:Addr)(us:List aa)(kw:List (Str×aa)):
  GP P w K mg base (A.under (.builtin "type.__call__" ⟨.ref C::us,kw⟩)) outer s H:=⟨by first|exact e.frames|(simpa [ju,Code.envs,jv,pushEnvs]using e.frames),e.mod,e.bs,e.bsz,e.funs,e.frf,e.hok,e.bare⟩
section
variable{X:Cx}{pins:List (Addr×Obj)}{σ:St}{H:Hp}{s s':ab}
theorem Inv.env0(I:Inv X pins σ H s):GP X.prog X.w X.K X.mg X.base X.A X.stack s H:=
 ⟨I.ok.frames,I.ok.mod,I.bs,bc I.ok.bsz I.sz,I.stack,I.stkFree,I.hok,I.bare⟩
theorem Inv.after{Q:VK}(I:Inv X pins σ H s)(h:CE X.stack X.prog X.w H s Q u s'):EP X pins σ Q u s':=by obtain⟨v,H',os,bare,un,hok,r,q⟩:=h;obtain⟨hh,g,d,t,os'⟩:=s';obtain rfl:os'=s.os:=os;exact⟨v,H',I.call (h':=hh) (g':=g) (d':=d) (t':=t) (ch:=[]) un hok bare (λb z=>ao z (by simp)),r,q⟩
end
def zD(sp:Sp)(dvs:List V)(E:XK)(t:TA):TE:=λσ H Q=>t σ H λvs H1=>sp (vs++dvs) H1 Q E
def Pl(C:Addr)(sp:Sp)(dvs:List V)(E:XK)(t:TA):TE:=λσ H Q=>t σ H λvs H1=>∀x dx,H1 x=none->H1 dx=none->dx≠x->
 sp (.ref x::(vs++dvs)) (upd (upd H1 dx (.own x)) x (.ins C dx [])) (λv H2=>v=.non/\Q (.ref x) H2) E
def Binds(K:ak)(fd:bB)(ps:List Str)(ds:List aa):Prop:=
 ∀(s:ab) (us:List aa),K.In s.heap->(us++ds).length=ps.length->fE s fd ⟨us,[]⟩ (ps.zip (us++ds))
theorem Binds.all{K:ak}(h:∀us:List aa,us.length=ps.length->bindArgs fd ⟨us,[]⟩=pure (ps.zip us)):Binds K fd ps []:=λs us _ hl=>by rw[bA]at hl ⊢;exact .of_eq (h us hl)
def Passes(CX:CXT)(X:Cx)(E:XK):Prop:=∀(pins:List (Addr×Obj)) (σ:St) (H:Hp) (s:ab) (e:aa) (s':ab),Inv X pins σ H s->CX X.stack H s E e s'->X.xe e s'
variable{vs:List V}
section
variable{X:Cx}{CX:CXT}{k:Nat}{f C:Addr}{fd:bB}{ps:List Str}{sp:Sp}{dvs:List V}{ds:List aa}{E:XK}{x m:Str}{p pos apos:Pos}{e o:Expr}{es:List Expr}{ta:TE}{t:TA}
theorem Ey{H:Hp}{s:ab}{Q:VK}(F:uw X.prog X.w X.K X.mg X.base CX k f fd ps sp)(hr:rG k X.A)(hb:Binds X.K fd ps ds)(hd:Vals dvs ds)(hx:Passes CX X E)
  (I:Inv X pins σ H s) (r:Vals vs us) (h:sp (vs++dvs) H Q E):ag (model X.prog X.w) X.A (call (.ref f) us) (EP X pins σ Q) X.xe s:=by
 have r2:Vals (vs++dvs) (us++ds):=r.append hd;have hl:(us++ds).length=ps.length:=by rw[<-r2.length];exact F.len _ _ _ _ h
 refine ig (fq (F.run X.A X.stack s H ⟨us,[]⟩ (us++ds) (vs++dvs) Q E hr I.env0 (hb s us I.kIn hl) r2 h) λr s' hq=>?_);cases r with
 |error e=>exact hx pins σ H s e s' I hq
 |ok fl=>
  cases fl with
  |ret u=>exact I.after hq
  |next=>exact b0 hq
  |brk=>exact b0 hq
  |cont=>exact b0 hq
theorem BE(F:uw X.prog X.w X.K X.mg X.base CX k f fd ps sp)(hr:rG k X.A)(hg:Gl X x)(hm:X.mg x=some (.ref f))(hk:cO X.K (.ref f)=true)(hb:Binds X.K fd ps ds)(hd:Vals dvs ds)(hx:Passes CX X E)
  (ha:PA X (e::es) t) (hdb:(x==("__debug__" : Str))=false:=by decide) (he:aw (e::es) X.env=(false,eval e X.env)::aw es X.env:=by rfl) (hpl:(ba pos (aw es X.env)).any (·.1)=false:=by rfl):
  PE X (.Call (.Name x p) (e::es) [] pos) (zD sp dvs E t):=by
 intro pins s σ H Q I h;refine cA (zB I hg hm ?_ hdb);refine jw (h₀:=X.base) I.ok.mod.kin hk (thn (ha pos pins s σ H _ I h) λus s1 ⟨vs,H1,I1,r,q⟩=>⟨I1.kIn,?_⟩) he hpl;exact Ey F hr hb hd hx I1 r q
theorem KB(F:uw X.prog X.w X.K X.mg X.base CX k f fd ps sp)(hr:rG k X.A)(hg:Gl X x)(hm:X.mg x=some (.ref f))(hk:cO X.K (.ref f)=true)(hb:Binds X.K fd ps ds)(hd:Vals dvs ds)(hx:Passes CX X E)
  (hdb:(x==("__debug__" : Str))=false:=by decide):PE X (.Call (.Name x p) [] [] pos) (zD sp dvs E Dl):=by
 intro pins s σ H Q I h;refine cA (zB I hg hm ?_ hdb);exact jk I.kIn hk (Ey (us:=[]) F hr hb hd hx I .nil h)
structure Mk(K:ak)(C f:Addr):Prop where
 makes:jL K C=true
 init:bT K (.ref C) "__init__" = some (some (.ref f))
 fn:ir K (.ref f)=true
 kp:cO K (.ref C)=true
theorem KC{H:Hp}{s:ab}{Q:VK}(M:Mk X.K C f)(F:uw X.prog X.w X.K X.mg X.base CX k f fd ps sp)(hr:rG (k+1) X.A)(hb:Binds X.K fd ps ds)(hd:Vals dvs ds)
  (hx:Passes CX X E) (I:Inv X pins σ H s) (r:Vals vs us)
  (h:∀x dx,H x=none->H dx=none->dx≠x->sp (.ref x::(vs++dvs)) (upd (upd H dx (.own x)) x (.ins C dx [])) (λv H2=>v=.non/\Q (.ref x) H2) E):
  ag (model X.prog X.w) X.A (call (.ref C) us) (EP X pins σ Q) X.xe s:=by
 have hq:=h (s.heap.objs.size+1) s.heap.objs.size (I.hok.fresh (f7 _)) (I.hok.fresh (aC _)) (aI (cD _));have I2:=Inv.made (C:=C) I;have r2:Vals (V.ref (s.heap.objs.size+1)::(vs++dvs)) (Value.ref (s.heap.objs.size+1)::(us++ds)):=.cons rfl (r.append hd);have hl:(Value.ref (s.heap.objs.size+1)::us++ds).length=ps.length:=by have e:=r2.length;rw[F.len _ _ _ _ hq]at e;exact e.symm
 refine ig (Ky (f:=f) I.kIn M.makes M.init (beq_iff_eq.mp M.fn) (fq (F.run _ X.stack _ _ ⟨Value.ref (s.heap.objs.size+1)::us,[]⟩ (Value.ref (s.heap.objs.size+1)::(us++ds)) _ _ E (hr.make C us [])
  (I2.env0.make C us []) (hb _ (Value.ref (s.heap.objs.size+1)::us) I2.kIn hl) r2 hq) λr s' hq'=>?_))
 cases r with
 |error e=>exact hx pins σ _ _ e s' I2 hq'
 |ok fl=>
  cases fl with
  |ret u=>obtain⟨v,H',I3,rv,ev,q3⟩:=I2.after hq';subst ev;exact⟨rv,⟨V.ref (s.heap.objs.size+1),H',I3,rfl,q3⟩⟩
  |next=>exact b0 hq'
  |brk=>exact b0 hq'
  |cont=>exact b0 hq'
theorem NA(M:Mk X.K C f)(F:uw X.prog X.w X.K X.mg X.base CX k f fd ps sp)(hr:rG (k+1) X.A)(hg:Gl X x)(hm:X.mg x=some (.ref C))(hb:Binds X.K fd ps ds)(hd:Vals dvs ds)(hx:Passes CX X E)
  (ha:PA X (e::es) t) (hdb:(x==("__debug__" : Str))=false:=by decide) (he:aw (e::es) X.env=(false,eval e X.env)::aw es X.env:=by rfl) (hpl:(ba pos (aw es X.env)).any (·.1)=false:=by rfl):
  PE X (.Call (.Name x p) (e::es) [] pos) (Pl C sp dvs E t):=by
 intro pins s σ H Q I h;refine cA (zB I hg hm ?_ hdb);refine jw (h₀:=X.base) I.ok.mod.kin M.kp (thn (ha pos pins s σ H _ I h) λus s1 ⟨vs,H1,I1,r,q⟩=>⟨I1.kIn,?_⟩) he hpl;exact KC M F hr hb hd hx I1 r q
end
structure rR(N P:List Str)(sc:b8):Prop where
 kind:sc.kind=.function
 co:sc.isCoroutine=false
 gen:sc.isGenerator=false
 nd:N.Nodup
 pre:N.take P.length=P
 par:∀x∈P,sc.names.lookup x=some .local\/sc.names.lookup x=some .cell
 nofree:∀y∈sc.names,y.2≠.free
theorem DG{kindOf:Str->Option cP}{x:Str}:∀{binds:List (Str×aa)} {m:Str->Option aa},(∀v,(x,v)∉binds)->bindL kindOf binds m x=m x
 |[],_,_=>rfl
 |(n,v)::r,m,h=>by
  unfold bindL;rw[DG λw hw=>h w (aO _ hw)];split
  ·have:x≠n:=by rintro rfl;exact h v aP
   simp[this]
  ·rfl
theorem DH{kindOf:Str->Option cP}{x:Str}:∀{binds:List (Str×aa)} {m:Str->Option aa},(∀v,(x,v)∉binds)->bindC kindOf binds m x=m x
 |[],_,_=>rfl
 |(n,v)::r,m,h=>by
  unfold bindC;rw[DH λw hw=>h w (aO _ hw)];split
  ·rfl
  ·have:x≠n:=by rintro rfl;exact h v aP
   simp[this]
theorem DI{kindOf:Str->Option cP}{x:Str}{v:aa}:∀{P:List Str} {vs:List aa} {i:Nat} {m:Str->Option aa},P.Nodup->P[i]?=some x->vs[i]?=some v->kindOf x=some .local->
  bindL kindOf (P.zip vs) m x=some v
 |[],_,_,_,_,h,_,_=>by simp at h
 |_::_,[],_,_,_,_,h,_=>by simp at h
 |p::P,w::vs,0,m,nd,h1,h2,hk=>by simp at h1 h2;subst h1;subst h2;show bindL kindOf ((p,w)::P.zip vs) m p=_;unfold bindL;rw[DG λv hv=>(dD.mp nd).1 (gY hv).1,ah hk];simp
 |p::P,w::vs,i+1,m,nd,h1,h2,hk=>by show bindL kindOf ((p,w)::P.zip vs) m x=_;unfold bindL;exact DI (i:=i) (dD.mp nd).2 (by simpa using h1) (by simpa using h2) hk
theorem DJ{kindOf:Str->Option cP}{x:Str}{v:aa}:∀{P:List Str} {vs:List aa} {i:Nat} {m:Str->Option aa},P.Nodup->P[i]?=some x->vs[i]?=some v->kindOf x≠some .local->
  bindC kindOf (P.zip vs) m x=some v
 |[],_,_,_,_,h,_,_=>by simp at h
 |_::_,[],_,_,_,_,h,_=>by simp at h
 |p::P,w::vs,0,m,nd,h1,h2,hk=>by simp at h1 h2;subst h1;subst h2;show bindC kindOf ((p,w)::P.zip vs) m p=_;unfold bindC;rw[DH λv hv=>(dD.mp nd).1 (gY hv).1,aj hk];simp
 |p::P,w::vs,i+1,m,nd,h1,h2,hk=>by show bindC kindOf ((p,w)::P.zip vs) m x=_;unfold bindC;exact DJ (i:=i) (dD.mp nd).2 (by simpa using h1) (by simpa using h2) hk
def start(N:List Str)(vs:List V):St:=vs.map some++br (N.length - vs.length) none
def Fk(CX:CXT)(P:ar)(w:aq)(K:ak)(mg:Str->Option aa)(base:Heap)(N:List Str)(qual:Str)(scope:b8)(f:Addr)(cd:aa)(A:av)(outer:List Env)(s:ab)(H:Hp)(E:XK):Cx where
 prog:=P
 w:=w
 K:=K
 mg:=mg
 base:=base
 A:=A.deeper (envOfC qual scope s.heap.objs.size f cd)
 N:=N
 s₀:=s
 H₀:=H
 env:=envOfC qual scope s.heap.objs.size f cd
 outer:=outer
 stack:=envOfC qual scope s.heap.objs.size f cd::outer
 ex:=[]
 calm:=true
 fn:=λ_=>true
 pn:=[]
 xe:=λe s'=>ag (model P w) (A.deeper (envOfC qual scope s.heap.objs.size f cd)) (leaving (envOfC qual scope s.heap.objs.size f cd) e) (λ_ s''=>CX outer H s E e s'') (λe' s''=>CX outer H s E e' s'') s'
theorem Fl{sc:b8}{n:Nat}(h:sc.names.lookup x=some .cell):∃c,(cellsFrom n sc.names []).lookup x=some c:=by have q:=lj sc.names n [] (.inl h);exact Option.isSome_iff_exists.mp q
variable{qual:Str}{scope:b8}
theorem Jx{P:ar}{w:aq}{K:ak}{f:Addr}{cd:aa}{A:av}{s s1:ab}{H:Hp}{E:XK}
  (S:rR N ps scope) (hd:A.handled=none) (e0:GP P w K mg base A outer s H) (hl:vs.length=ps.length) (r:Vals vs us)
  (x:InCallC s s.heap.objs.size (bindL (envOfC qual scope s.heap.objs.size f cd).kindOf (ps.zip us) λ_=>none) (cellsFrom (s.heap.objs.size+1) scope.names []) (bindC (envOfC qual scope s.heap.objs.size f cd).kindOf (ps.zip us) λ_=>none) s1):
  Inv (Fk CX P w K mg base N qual scope f cd A outer s H E) [] (start N vs) H s1:=by
 have hpl:ps.length<=N.length:=by have:=bj cg S.pre;rw[bz]at this;omega
 obtain⟨h1,tk,rfl,hk⟩:=x.done;have noA:∀b:Addr,b∉(Fk CX P w K mg base N qual scope f cd A outer s H E).ex:=λb z=>ao (show b∈([]:List Addr) from z) (by simp);refine⟨⟨e0.mod,S.kind,rfl,rfl,aC _,λy z c h1 h2=>?_,λy hy=>?_,λy c _ h=>?_,λ_=>hd,Around.frames_deeper e0.frames,.inr ⟨rfl,rfl⟩,λb z=>ao z (noA b),e0.bs,e0.bsz,λb _ _=>noA b,λb z=>ao z (noA b),e0.funs,e0.frf⟩,
  rfl,e0.bare,Un.kept hk,⟨_,x.toInCall.ns,λi y v h1 h2 h3=>?_⟩,λy c h=>⟨_,x.cell y c h⟩,e0.hok.fresh (aC _),λy c h=>?_,λp hp=>ao (show p∈([]:List (Addr×Obj)) from hp) (by simp),e0.hok.kept hk,?_⟩
 ·exact name_of_addr x.apart (fK h1) (fK h2)
 ·have hy:scope.names.lookup y=some .cell\/scope.names.lookup y=some .free:=hy;rcases hy with hy|hy
  ·exact Fl hy
  ·exact ao rfl (S.nofree _ (fK hy))
 ·exact fX (x.above y c (fK h))
 ·have hi:i<vs.length:=by
   unfold start at h2;by_cases hi:i<vs.length
   ·exact hi
   ·rw[dQ (by simpa using hi)]at h2;rw[gy]at h2;split at h2<;>cases h2
  have ha:vs[i]?=some v:=by
   unfold start at h2;rw[dR (by simpa using hi),bb]at h2;cases e:vs[i]? with
   |none=>rw[e]at h2;cases h2
   |some a=>rw[e]at h2;cases h2;rfl
  obtain⟨u,hu,rv⟩:=r.get ha;have hp:ps[i]?=some y:=by rw[<-S.pre,List.getElem?_take_of_lt (by omega)];exact h1
  have ndP:ps.Nodup:=by rw[<-S.pre];exact S.nd.sublist (fN _ _)
  refine⟨u,rv,?_⟩;rcases S.par y (bF hp)with k|k
  ·exact .inl ⟨k,DI ndP hp hu k⟩
  ·obtain⟨c,e⟩:=Fl (n:=s.heap.objs.size+1) k;refine .inr ⟨.inl k,c,e,?_⟩;have q:=x.cell y c e;rw[DJ ndP hp hu (by show scope.names.lookup y≠_;rw[k];decide)]at q;exact q
 ·exact e0.hok.fresh (fX (x.above y c (fK h)))
 ·unfold start;show _=N.length;rw[au,af,bV];omega
theorem Pm{P:ar}{w:aq}{K:ak}{k:Nat}{f:Addr}{name:Str}{params:Arguments}{dV kV doc pm cdv ct oc:aa}{an od:Option Addr}
  {osl:Array (Option aa)} (lk:K.lookup f=some ⟨oc,od,.func (dq name qual params body scope dV kV doc pm an cdv ct),osl⟩) (hcd:fD K cdv qual=true) (S:rR N ps scope)
  (len:∀vs H Q E,sp vs H Q E->vs.length=ps.length)
  (hbody:∀(A:av) (outer:List Env) (s:ab) (H:Hp) (vs:List V) (Q:VK) (E:XK),rG k (A.deeper (envOfC qual scope s.heap.objs.size f cdv))->sp vs H Q E->
   ∃t,PSs (Fk CX P w K mg base N qual scope f cdv A outer s H E) body t/\t { nx:=λ_ H'=>Q .non H',rt:=Q } (start N vs) H):
  uw P w K mg base CX (k+1) f (dq name qual params body scope dV kV doc pm an cdv ct) ps sp:=by
 refine⟨len,λA outer s H args us vs Q E hr e0 hb r hsp=>?_⟩;have hl:=len _ _ _ _ hsp;have KX:K.In s.heap:=e0.mod.kin.keeps λb o e=>(e0.bs b o e).1;have lim:s.heap.NoLimit:=e0.mod.nolimit.keeps λb o e=>(e0.bs b o e).1;have hkind:∀y∈ps.zip us,scope.names.lookup y.1=some .local\/(scope.names.lookup y.1=some .cell/\((cellsFrom (s.heap.objs.size+1) scope.names []).lookup y.1).isSome=true):=λ⟨n,v⟩ hy=>by
  rcases S.par n (gY hy).1 with q|q
  ·exact .inl q
  ·exact .inr ⟨q,lj _ _ _ (.inl q)⟩
 refine codeAny_call_function hr.depth (KX _ _ lk) rfl S.co S.gen rfl (W.codeRec_of KX hcd) (hb _ _ _ _ ?_);refine wpAny_newFunctionEnv_cells S.kind hkind λenv he s1 x=>?_;subst he;refine⟨lim.keeps x.toInCall.keep,codeAny_func ?_⟩;obtain⟨t,ht,hq⟩:=hbody A outer s H vs Q E (hr.deeper _) hsp;have I:Inv (Fk CX P w K mg base N qual scope f cdv A outer s H E) [] (start N vs) H s1:=Jx S hr.hd e0 hl r x;refine bH (ht [] s1 (start N vs) H _ I hq) (λfl s' hs=>?_) λe s' hs=>hs;have fin:∀{σ':St} {H':Hp} {v:V} {u:aa},Inv (Fk CX P w K mg base N qual scope f cdv A outer s H E) [] σ' H' s'->RelV v u->Q v H'->CE outer P w H s Q u s':=
  λ{σ' H' v u} J rv q=>⟨v,H',J.os,J.bare,J.base,J.hok,rv,q⟩
 cases fl with
 |ret u=>obtain⟨v,σ',H',J,rv,q⟩:=hs;exact fin J rv q
 |next=>obtain⟨σ',H',J,q⟩:=hs;exact fin (v:=V.non) (u:=Value.none) J rfl q
 |brk=>obtain⟨_,_,_,q⟩:=hs;exact b0 q
 |cont=>obtain⟨_,_,_,q⟩:=hs;exact b0 q
section
variable{X:Cx}{x:Str}{p pos:Pos}{e:Expr}{es:List Expr}{t:TA}{id T:String}{r:List V->Hp->VK->Prop}
def tCB(r:List V->Hp->VK->Prop)(t:TA):TE:=λσ H Q=>t σ H λvs H1=>r vs H1 Q
theorem zE(hc:rY X (.builtin id) r)(hg:Gl X x)(hm:X.mg x=none)(hv:cJ x=some (.builtin id))(ha:PA X (e::es) t)(hn:x≠"__name__" := by decide)(hdb:(x==("__debug__" : Str))=false:=by decide)
  (he:aw (e::es) X.env=(false,eval e X.env)::aw es X.env:=by rfl) (hpl:(ba pos (aw es X.env)).any (·.1)=false:=by rfl):PE X (.Call (.Name x p) (e::es) [] pos) (tCB r t):=by
 intro pins s σ H Q I h;refine cA (xU I hg hm hv ?_ hn hdb);exact callWith_builtin1 (thn (ha pos pins s σ H _ I h) λus s1 ⟨vs,H1,I1,r1,q1⟩=>hc pins s1 σ H1 vs us Q I1 r1 q1) he hpl
theorem Jy(hc:rY X (.type T) r)(hg:Gl X x)(hm:X.mg x=none)(hv:cJ x=some (.type T))(ha:PA X (e::es) t)(hn:x≠"__name__" := by decide)(hdb:(x==("__debug__" : Str))=false:=by decide)
  (he:aw (e::es) X.env=(false,eval e X.env)::aw es X.env:=by rfl) (hpl:(ba pos (aw es X.env)).any (·.1)=false:=by rfl):PE X (.Call (.Name x p) (e::es) [] pos) (tCB r t):=by
 intro pins s σ H Q I h;refine cA (xU I hg hm hv ?_ hn hdb);exact callWith_type1 (thn (ha pos pins s σ H _ I h) λus s1 ⟨vs,H1,I1,r1,q1⟩=>hc pins s1 σ H1 vs us Q I1 r1 q1) he hpl
end
end L2
namespace HT
open PySem PyProof.Rows
variable{t sl:Addr}{Q:aa->ab->Prop}{vl vu:aa}{lo:Option Int}
section
variable{prog:ar}{w:aq}{A:av}{E:aa->ab->Prop}{s:ab}
theorem NB{b:Addr}{vs ws:List aa}(ht:gp s.heap t vs.toArray)(hb:gp s.heap b ws.toArray)(hv:vs≠[])
  (h1:ws=[]->Q (.ref t) s) (h2:ws≠[]->Q (.ref s.heap.objs.size) { s with heap:=s.heap.push { cls:=.type "tuple", data:=.seq (vs++ws).toArray } })
  (hsz:vs.length+ws.length<=ay):ag (model prog w) A (bO .Add (.ref t) (.ref b)) Q E s:=by
 obtain⟨⟨cls,dd,data,sl⟩,ho,hc,n,hd⟩:=id ht;obtain⟨⟨cls2,dd2,data2,sl2⟩,ho2,hc2,n2,hd2⟩:=id hb;simp only at hc hd hc2 hd2;subst hc hd hc2 hd2;have e:vs.toArray++ws.toArray=(vs++ws).toArray:=by simp
 by_cases hw:ws=[]
 ·exact concat_meets ⟨_,ho,rfl⟩ ⟨_,ho2,rfl⟩ lp mx lq kO (kE _ _)
   (tuple_addW1 t b vs.toArray ws.toArray n n2 dd dd2 sl sl2 (by simpa using hv) (by simp[hw])) ⟨ho,ho2,h1 hw⟩
 ·refine concat_meets ⟨_,ho,rfl⟩ ⟨_,ho2,rfl⟩ lp mx lq kO (kE _ _)
   (tuple_addW2 t b vs.toArray ws.toArray n n2 dd dd2 sl sl2 (by simpa using hv) (by simpa using hw) (by rw[aM,aM];exact hsz)) ⟨ho,ho2,?_⟩
  rw[e];exact h2 hw
def sIx(n d:Nat):Option Int->Nat
 |none=>d
 |some v=>if v<0 then (v+(n:Int)).toNat else min v.toNat n
theorem Fm(n d:Nat):sIx n d none=d:=rfl
theorem HY(n d k:Nat):sIx n d (some (k:Int))=min k n:=by show (if (k:Int)<0 then ((k:Int)+(n:Int)).toNat else min (k:Int).toNat n)=min k n;rw[aj (by omega),eR]
theorem Qs(n d:Nat)(hd:d<=n)(o:Option Int):sIx n d o<=n:=by
 cases o with
 |none=>exact hd
 |some v=>
  show (if v<0 then (v+(n:Int)).toNat else min v.toNat n)<=n;by_cases hv:v<0
  ·rw[ah hv];omega
  ·rw[aj hv];exact lu _ _
theorem HZ(v:Int)(n d:Nat):(if v<0 then max (v+(n:Int)) 0 else min v (n:Int))=((sIx n d (some v):Nat):Int):=by
 show (if v<0 then max (v+(n:Int)) 0 else min v (n:Int))=(((if v<0 then (v+(n:Int)).toNat else min v.toNat n):Nat):Int);by_cases hv:v<0
 ·simp only[ah hv];omega
 ·simp only[aj hv];omega
theorem GQ(lo hi:Option Int)(n:Nat):iw lo hi 1 (n:Int)=(((sIx n 0 lo:Nat):Int),((sIx n n hi:Nat):Int)):=by
 have h1:¬((1:Int)<0):=by omega
 unfold iw;simp only[h1,if_false];refine Prod.ext ?_ ?_
 ·cases lo with
  |none=>rfl
  |some v=>exact HZ v n 0
 ·cases hi with
  |none=>rfl
  |some v=>exact HZ v n n
theorem GR(i j:Nat):gu (i:Int) (j:Int) 1=j - i:=by
 unfold gu;have h1:(1:Int) > 0:=by omega
 simp only[h1,if_true,Int.ediv_one];split<;>omega
theorem BS{v:aa}{o:Option Int}{Q:Option Int->ab->Prop}(p:dP v o)(h:Q o s):ag (model prog w) A (nu v) Q E s:=by
 cases p with
 |none=>exact ma h
 |int i t=>exact slicePart_int h
theorem Aq{hi:Option Int}{n:Nat}{Q:Int×Int×Nat->ab->Prop}(hs:s.heap.IsSliceOf sl vl vu .none)(pl:dP vl lo)(pu:dP vu hi)
  (h:Q (((sIx n 0 lo:Nat):Int),1,sIx n n hi - sIx n 0 lo) s):ag (model prog w) A (jR (.ref sl) (pure (n:Int))) Q E s:=by
 obtain⟨os,hos,hcs,hds⟩:=id hs;unfold jR nP;refine ae (ae (jC hos hds (x:=vl) rfl (ae (jC hos hds (x:=vu) rfl (ae (jC hos hds (x:=.none) rfl (ai ?_)))))));refine ae (ma ?_);show ag _ _ (if ((1:Int)==0)=true then _ else _) _ _ s;rw[aj (by decide)];refine ae (BS pl (ae (BS pu (ae (ai ?_)))));show ag _ _ (match iw lo hi 1 (n:Int)with|(lo,hi)=>pure (lo,(1:Int),gu lo hi 1)) _ _ s;rw[GQ lo hi n];show ag _ _ (pure (((sIx n 0 lo:Nat):Int),(1:Int),gu ((sIx n 0 lo:Nat):Int) ((sIx n n hi:Nat):Int) 1)) _ _ s;rw[GR];exact ai h
theorem KD(xs:Array aa)(i k:Nat):((aL k).filterMap λ(m:Nat)=>xs[((i:Int)+(m:Int) * 1).toNat]?).toArray=((xs.toList.drop i).take k).toArray:=by
 have e:(λ(m:Nat)=>xs[((i:Int)+(m:Int) * 1).toNat]?)=λm=>xs[i+m]?:=by
  funext m
  have:((i:Int)+(m:Int) * 1).toNat=i+m:=by omega
  rw[this]
 rw[e];have:=pick_run xs i k;rw[List.filterMap_map]at this;have e2:((λx=>xs[x]?)∘λx=>i+x)=λm=>xs[i+m]?:=rfl;rw[e2]at this;rw[this]
theorem zF{items:Array aa}{hi:Option Int}(ht:gp s.heap t items)(hs:s.heap.IsSliceOf sl vl vu .none)(pl:dP vl lo)(pu:dP vu hi)
  (hw:¬(sIx items.size 0 lo=0/\sIx items.size items.size hi=items.size))
  (h:Q (.ref s.heap.objs.size) { s with heap:=s.heap.push { cls:=.type "tuple", data:=.seq ((items.toList.drop (sIx items.size 0 lo)).take (sIx items.size items.size hi - sIx items.size 0 lo)).toArray } })
  (hsz:items.size<=ay):ag (model prog w) A (getItem (.ref t) (.ref sl)) Q E s:=by
 have htake:sizeOk (.seq ((items.toList.drop (sIx items.size 0 lo)).take (sIx items.size items.size hi - sIx items.size 0 lo)).toArray):=by show ((items.toList.drop (sIx items.size 0 lo)).take (sIx items.size items.size hi - sIx items.size 0 lo)).toArray.size<=ay;rw[aM,bz,dw,bh];omega
 have hj:sIx items.size items.size hi<=items.size:=Qs _ _ (aC _) hi;obtain⟨os,hos,hcs,hds⟩:=id hs;have hTs:s.TypeIs (.ref sl) "slice" := ⟨os,hos,hcs⟩;unfold getItem
 try with_reducible refine bu ?_
 first|refine ae (ai ?_)|skip
 refine ae (wpAny_sequenceKey ht.typeIs (by decide) ?_);refine ae (jW (name:=hU "__getitem__") ht.typeIs gq
  (eV gq ht.typeIs entry_tuple_getitem ?_ (args_tuple_getitem _ _)))
 show ag _ _ (ny (.ref t)>>=_) _ _ s;refine ae (tupleItemsOf_ ht ?_);refine ae (hX hTs ?_);rw[ah (by decide)];refine ae (Aq hs pl pu ?_);have hno:¬((((sIx items.size 0 lo:Nat):Int)==0&&(1:Int)==1&&(sIx items.size items.size hi - sIx items.size 0 lo)==items.size)=true):=by intro q;rw[aF,aF]at q;have q1:((sIx items.size 0 lo:Nat):Int)=0:=eD q.1.1;have q2:sIx items.size items.size hi - sIx items.size 0 lo=items.size:=eD q.2;exact hw ⟨by omega,by omega⟩
 show ag _ _ (if (((sIx items.size 0 lo:Nat):Int)==0&&(1:Int)==1&&(sIx items.size items.size hi - sIx items.size 0 lo)==items.size)=true then _ else _) _ _ s;rw[aj hno,KD]
 first
  |exact ae (m:=gx _) (cB (ai ⟨_,rfl,ai h⟩) htake)
  |exact ae (m:=gx _) (cB (ae (ai (ai ⟨_,rfl,ai h⟩))) htake)
  |exact ae (ae (m:=gx _) (cB (ai (ai ⟨_,rfl,ai h⟩)) htake))
  |exact ae (ae (m:=gx _) (cB (ai ⟨_,rfl,ai h⟩) htake))
end
end HT
namespace L2
open PySem PySem.Spec PyProof.Rows
abbrev TO:=St->Hp->(Option Int->Hp->Prop)->Prop
def PO(X:Cx)(e:Option Expr)(t:TO):Prop:=
 ∀(pins:List (Addr×Obj)) (s:ab) (σ:St) (H:Hp) (Q:Option Int->Hp->Prop),Inv X pins σ H s->t σ H Q->
  ag (model X.prog X.w) X.A (evalPart e X.env) (λu s'=>∃o H',Inv X pins σ H' s'/\dP u o/\Q o H') X.xe s
def NC:TO:=λ_ H Q=>Q none H
def Ur(t:TE):TO:=λσ H Q=>t σ H λx H1=>∃i,x=.int i/\Q (some i) H1
variable{us:List aa}
section
variable{X:Cx}{e:Expr}{te:TE}{lo hi:Option Expr}{tl th:TO}{pos p2:Pos}
theorem Ia:PO X none NC:=by intro pins s σ H Q I h;rw[mC];exact ai ⟨none,H,I,.none,h⟩
theorem Ib(h:PE X e te):PO X (some e) (Ur te):=by intro pins s σ H Q I hw;rw[evalPart_some];refine thn (h pins s σ H _ I hw) λu s1 zz=>?_;obtain⟨x,H1,I1,r1,q1⟩:=zz;obtain⟨i,rfl,q⟩:=q1;obtain⟨t,rfl⟩:=r1;exact⟨some i,H1,I1,.int i t,q⟩
def SlR(X:Cx)(r:V->Option Int->Option Int->Hp->VK->Prop):Prop:=
 ∀(pins:List (Addr×Obj)) (s:ab) (σ:St) (H:Hp) (x:V) (v vl vu:aa) (lo hi:Option Int) (sl:Addr) (Q:VK),Inv X pins σ H s->RelV x v->s.heap.IsSliceOf sl vl vu .none->dP vl lo->dP vu hi->r x lo hi H Q->
  ∃T id,typeLookup (.type T) "__getitem__" = pure (some (.builtin id))/\s.TypeIs v T/\ag (model X.prog X.w) X.A (getItem v (.ref sl)) (EP X pins σ Q) X.xe s
def tSl(r:V->Option Int->Option Int->Hp->VK->Prop)(te:TE)(tl th:TO):TE:=λσ H Q=>te σ H λx H1=>tl σ H1 λl H2=>th σ H2 λu H3=>r x l u H3 Q
theorem Fn{r:V->Option Int->Option Int->Hp->VK->Prop}(hr:SlR X r)(he:PE X e te)(hl:PO X lo tl)(hu:PO X hi th):PE X (.Subscript e (.Slice lo hi none p2) pos) (tSl r te tl th):=by intro pins s σ H Q I h;refine jF (thn (he pins s σ H _ I h) λv s1 zz=>?_);obtain⟨x,H1,I1,r1,q1⟩:=zz;refine wpAny_Slice (thn (hl pins s1 σ H1 _ I1 q1) λvl s2 ⟨l,H2,I2,pl,q2⟩=>thn (hu pins s2 σ H2 _ I2 q2) λvu s3 zz=>?_);obtain⟨u,H3,I3,pu,q3⟩:=zz;rw[mC];refine ai ?_;have I4:Inv X pins σ H3 { s3 with heap:=s3.heap.push { cls:=.type "slice", data:=.fields #[vl,vu,.none] } }:=I3.kept (t':=s3.toks) λb ob q=>aA _ q;obtain⟨T,id,hT,ht,hg⟩:=hr pins { s3 with heap:=s3.heap.push { cls:=.type "slice", data:=.fields #[vl,vu,.none] } } σ H3 x v vl vu l u s3.heap.objs.size Q I4 r1 (oY ..) pl pu q3;show ag (model X.prog X.w) X.A (subscriptTail e (.Slice lo hi none p2) v (.ref s3.heap.objs.size)) (EP X pins σ Q) X.xe { s3 with heap:=s3.heap.push { cls:=.type "slice", data:=.fields #[vl,vu,.none] } };exact tail_any (ops:=[.ref s3.heap.objs.size,v]) ht hT hg (by with_unfolding_all rfl)
def Fo(xs:List V)(lo hi:Option Int):List V:=(xs.drop (HT.sIx xs.length 0 lo)).take (HT.sIx xs.length xs.length hi - HT.sIx xs.length 0 lo)
theorem AX(xs:List V)(lo hi:Option Int):(Fo xs lo hi).length<=xs.length:=by unfold Fo;rw[bz,dw];omega
def Qt(K:ak):V->Option Int->Option Int->Hp->VK->Prop:=λx lo hi H Q=>∃a xs,x=.ref a/\SqT K H a xs/\
 ¬(HT.sIx xs.length 0 lo=0/\HT.sIx xs.length xs.length hi=xs.length)/\∀p,H p=none->Q (.ref p) (upd H p (.tup (Fo xs lo hi)))
theorem Qu:SlR X (Qt X.K):=by
 intro pins s σ H x v vl vu lo hi sl Q I rx hs pl pu h;obtain⟨a,xs,rfl,hx,hw,q⟩:=h;cases rx;obtain⟨its,r,ht,hz⟩:=I.tuple hx;have hlen:its.toArray.size=xs.length:=by rw[aM];exact r.length.symm
 refine⟨"tuple", _,gq.lookup,ht.typeIs,?_⟩;refine HT.zF ht hs pl pu (by rw[hlen];exact hw) ?_ (by rw[hlen];exact hz);rw[hlen];refine⟨.ref s.heap.objs.size,_,I.laid (t':=s.toks) (o:=.tup (Fo xs lo hi)) (λb ob q=>aA _ q) (aC _) ?_,rfl,q _ (I.hok.fresh (aC _))⟩;exact⟨bc (AX xs lo hi) hz,_,(r.drop (HT.sIx xs.length 0 lo)).take (HT.sIx xs.length xs.length hi - HT.sIx xs.length 0 lo),nh _ _⟩
def Us(K:ak):R2:=λx y H Q=>∃a b xs ys,x=.ref a/\y=.ref b/\SqT K H a xs/\SqT K H b ys/\xs≠[]/\xs.length+ys.length<=ay/\
 (ys=[]->Q (.ref a) H)/\(ys≠[]->∀p,H p=none->Q (.ref p) (upd H p (.tup (xs++ys))))
theorem Vals.nil_iff{xs:List V}(r:Vals xs us):us=[] ↔ xs=[]:=by
 cases r with
 |nil=>simp
 |cons _ _=>simp
theorem ND:OpR X (bO .Add) (Us X.K):=by intro pins s σ H x y v u Q I rx ry h;obtain⟨a,b,xs,ys,rfl,rfl,ha,hb,hx,hz,q1,q2⟩:=h;cases rx;cases ry;obtain⟨its,r1,p1,_⟩:=I.tuple ha;obtain⟨its2,r2,p2,_⟩:=I.tuple hb;refine HT.NB p1 p2 (λz=>hx (r1.nil_iff.mp z)) (λz=>⟨.ref a,H,I,rfl,q1 (r2.nil_iff.mp z)⟩) (λz=>?_) (by rw[<-r1.length,<- r2.length];exact hz);refine⟨.ref s.heap.objs.size,_,I.laid (t':=s.toks) (o:=.tup (xs++ys)) (λb ob q=>aA _ q) (aC _) ?_,rfl,q2 (λw=>z (r2.nil_iff.mpr w)) _ (I.hok.fresh (aC _))⟩;exact⟨by rw[au];exact hz,_,r1.append r2,nh _ _⟩
end
def ixN(n:Nat)(i:Int):Option Nat:=if 0<=i then (if i<n then some i.toNat else none)else if -(n:Int)<=i then some (i+n).toNat else none
def atI{α:Type}(xs:List α)(i:Int):Option α:=(ixN xs.length i).bind λj=>xs[j]?
variable{j:Nat}
theorem Ie{n:Nat}{i:Int}(h:ixN n i=some j):seqIndex? i n=some j/\j<n/\-(n:Int)<=i/\i<n:=by
 unfold ixN at h;by_cases h0:0<=i
 ·rw[ah h0]at h;by_cases h1:i<n
  ·rw[ah h1]at h;have e:i.toNat=j:=bN h;exact⟨by rw[jD h0 h1,e],by omega,by omega,h1⟩
  ·rw[aj h1]at h;cases h
 ·rw[aj h0]at h;by_cases h1:-(n:Int)<=i
  ·rw[ah h1]at h;have e:(i+n).toNat=j:=bN h;exact⟨by rw[jx (by omega) h1,e],by omega,h1,by omega⟩
  ·rw[aj h1]at h;cases h
theorem EA{α:Type}{xs:List α}{i:Int}{v:α}(h:atI xs i=some v):∃j,seqIndex? i xs.length=some j/\xs[j]?=some v/\j<xs.length/\-(xs.length:Int)<=i/\i<xs.length:=by
 unfold atI at h;cases e:ixN xs.length i with
 |none=>rw[e]at h;cases h
 |some j=>rw[e]at h;obtain⟨h1,h2,h3,h4⟩:=Ie e;exact⟨j,h1,h,h2,h3,h4⟩
theorem zG{α:Type}{xs:List α}{v:α}(h:xs[j]?=some v):atI xs (j:Int)=some v:=by
 have hj:j<xs.length:=(bE.mp h).1;have e:ixN xs.length (j:Int)=some j:=by unfold ixN;rw[ah (by omega),ah (by omega)];simp
 unfold atI;rw[e];exact h
def Ig(b:Expr):Prop:=∀o i,subscripted b false o i=operate [o,i] (getItem o i)
def IxR(X:Cx)(r:R2):Prop:=
 ∀(value slice:Expr) (pins:List (Addr×Obj)) (s:ab) (σ:St) (H:Hp) (x y:V) (v u:aa) (Q:VK),Inv X pins σ H s->RelV x v->RelV y u->r x y H Q->
  subscripted slice false v u=operate [v,u] (getItem v u)->ag (model X.prog X.w) X.A (subscriptTail value slice v u) (EP X pins σ Q) X.xe s
def MtR(X:Cx)(id:String)(r:V->List V->Hp->VK->Prop):Prop:=
 ∀(pins:List (Addr×Obj)) (s:ab) (σ:St) (H:Hp) (x:V) (xs:List V) (v:aa) (us:List aa) (Q:VK),Inv X pins σ H s->RelV x v->Vals xs us->r x xs H Q->
  ag (model X.prog X.w) X.A (call (.builtin id) (v::us)) (EP X pins σ Q) X.xe s
variable{r:R2}{pins:List (Addr×Obj)}{σ:St}{its its':List aa}{y:V}{u:aa}{T:String}
section
variable{X:Cx}{a b:Expr}{ta tb:TE}{pos:Pos}
theorem IxR.or{r':R2}(h:IxR X r)(h':IxR X r'):IxR X (λx y H Q=>r x y H Q\/r' x y H Q):=by
 intro value slice pins s σ H x y v u Q I rx ry q hs;rcases q with q|q
 ·exact h value slice pins s σ H x y v u Q I rx ry q hs
 ·exact h' value slice pins s σ H x y v u Q I rx ry q hs
theorem Pn(hr:IxR X r)(ha:PE X a ta)(hb:PE X b tb)(hs:Ig b):PE X (.Subscript a b pos) (tOp r ta tb):=by intro pins s σ H Q I h;exact jF (Qi ha hb I h λv u s2 x y H2 I2 rx ry q=>hr a b pins s2 σ H2 x y v u Q I2 rx ry q (hs _ _))
def NF(K:ak):R2:=λx y H Q=>∃p xs i v,x=.ref p/\y=.int i/\SqL K H p xs/\atI xs i=some v/\Q v H
def Ut(K:ak):R2:=λx y H Q=>∃p xs i v,x=.ref p/\y=.int i/\SqT K H p xs/\atI xs i=some v/\Q v H
def Uu:R2:=λx y H Q=>∃z i c,x=.str z/\y=.int i/\z.length<=ay/\atI z.cps.toList i=some c/\Q (.str ⟨#[c]⟩) H
theorem Ih:IxR X (NF X.K):=by
 intro value slice pins s σ H x y v u Q I rx ry h hs;obtain⟨p,xs,i,z,rfl,rfl,hq,he,q⟩:=h;cases rx;obtain⟨t,rfl⟩:=ry;obtain⟨its,r,pl,hz⟩:=I.list hq;obtain⟨j,h1,h2,h3,h4,h5⟩:=EA he;obtain⟨w,ew,rw'⟩:=r.get h2;have hl:=r.length;have hn:=Ao;have fin:EP X pins σ Q w s:=⟨z,H,I,rw',q⟩;by_cases h0:0<=i
 ·have hj:i.toNat=j:=by rw[jD h0 h5]at h1;exact bN h1
  exact item_listR pl.isList h0 (by omega) (by rw[hj];simpa using ew) fin hs
 ·have hj:(i+(its.toArray.size:Int)).toNat=j:=by rw[jx (by omega) h4]at h1;rw[aM,<- hl];exact bN h1
  exact jZ (x:=w) pl.isList.typeIs kP.lookup
   (wpAny_getItem_list_neg (Q:=λr s'=>r=w/\EP X pins σ Q r s') pl.isList (by omega) (by rw[aM]<;>omega) (by omega) (by rw[hj];simpa using ew) ⟨rfl,fin⟩) hs
theorem Qv:IxR X (Ut X.K):=by
 intro value slice pins s σ H x y v u Q I rx ry h hs;obtain⟨p,xs,i,z,rfl,rfl,hq,he,q⟩:=h;cases rx;obtain⟨t,rfl⟩:=ry;obtain⟨its,r,pl,hz⟩:=I.tuple hq;obtain⟨j,h1,h2,h3,h4,h5⟩:=EA he;obtain⟨w,ew,rw'⟩:=r.get h2;have hl:=r.length;have hn:=Ao;have fin:EP X pins σ Q w s:=⟨z,H,I,rw',q⟩;exact jZ (x:=w) pl.typeIs gq.lookup
  (getItem_tuple (j:=j) (Q:=λr s'=>r=w/\EP X pins σ Q r s') pl (by omega) (by omega) (by rw[aM,<- hl];exact h1) (by simpa using ew) ⟨rfl,fin⟩) hs
theorem Qw:IxR X Uu:=by
 intro value slice pins s σ H x y v u Q I rx ry h hs;obtain⟨z,i,c,rfl,rfl,hz,he,q⟩:=h;obtain⟨t,rfl⟩:=rx;obtain⟨t',rfl⟩:=ry;obtain⟨j,h1,h2,h3,h4,h5⟩:=EA he;have hl:z.cps.toList.length=z.length:=by simp[Str.length]
 rw[hl]at h1 h4 h5;have hn:=Ao;exact tail_any (typeIs_str s z t) slot_str_getitem.lookup (getItem_str (c:=c) (by
  have e1:decide (i < -(2 ^ 63:Int))=false:=aN (by omega);have e2:decide (i >= 2 ^ 63)=false:=aN (by omega);rw[e1,e2,Bool.or_false]) (by rw[h1];simpa using h2) ⟨.str ⟨#[c]⟩,H,I.tok _,⟨_,rfl⟩,q⟩) hs
def rIx(K:ak):R2:=λx y H Q=>NF K x y H Q\/Ut K x y H Q\/Uu x y H Q
theorem Qx:IxR X (rIx X.K):=Ih.or (Qv.or Qw)
theorem GT(its:List aa)(n j:Nat)(u:aa):cN (·.setIfInBounds j u) { cls:=.type "list", data:=.seq its.toArray n }={ cls:=.type "list", data:=.seq (its.set j u).toArray n }:=by simp[cN]
theorem Inv.lst{pins:List (Addr×Obj)}{σ:St}{H:Hp}{s:ab}{p:Addr}{xs:List V}(I:Inv X pins σ H s)(h:H p=some (.lst xs)):
  ∃(its:List aa) (n:Nat),Vals xs its/\s.heap.get? p=some { cls:=.type "list", data:=.seq its.toArray n }/\xs.length<=ay:=by
 obtain⟨z,its,n,r,e⟩:=I.hok p _ h;exact⟨its,n,r,e,z⟩
theorem Inv.lstUpd{H:Hp}{s:ab}{p:Addr}{xs ys:List V}{n n':Nat}{f:Obj->Obj}(I:Inv X pins σ H s)(h:H p=some (.lst xs))
  (ho:s.heap.get? p=some { cls:=.type "list", data:=.seq its.toArray n }) (hf:f { cls:=.type "list", data:=.seq its.toArray n }={ cls:=.type "list", data:=.seq its'.toArray n' }) (r:Vals ys its') (hz:ys.length<=ay) (t:Nat):
  Inv X pins σ (upd H p (.lst ys)) { s with heap:=s.heap.update p f,toks:=t }:=by
 have e:(s.heap.update p f).get? p=some { cls:=.type "list", data:=.seq its'.toArray n' }:=by rw[dr f ho (by rw[hf]<;>rfl),hf]
 refine I.write (x:=p) (e:=p) (by rw[h];trivial) (.inl rfl) (λb u hb q=>(gG _ _ (cQ hb)).trans q) ⟨_,e⟩ ?_;exact⟨hz,its',n',r,e⟩
def Po:V->V->V->Hp->(Hp->Prop)->Prop:=λo i v H Q=>∃p xs k j,o=.ref p/\i=.int k/\H p=some (.lst xs)/\ixN xs.length k=some j/\Q (upd H p (.lst (xs.set j v)))
theorem set_list:Ub X Po:=by
 intro pins s σ H o i v ov iv u Q I ro ri rv h;obtain⟨p,xs,k,j,rfl,rfl,hp,hj,q⟩:=h;cases ro;obtain⟨t,rfl⟩:=ri;obtain⟨its,n,r,ho,hz⟩:=I.lst hp;obtain⟨h1,h2,h3,h4⟩:=Ie hj;have hl:=r.length;have hn:=Ao;have I':Inv X pins σ (upd H p (.lst (xs.set j v))) { s with heap:=s.heap.update p (cN (·.setIfInBounds j u)) }:=
  I.lstUpd hp ho (GT its n j u) (r.set rv j) (by rw[dc];exact hz) s.toks
 by_cases h0:0<=k
 ·have hk:k.toNat=j:=by rw[jD h0 h4]at h1;exact bN h1
  exact W.ki_setAt ho h0 (by omega) (by rw[aM,<- hl];exact h4) (by rw[hk];exact⟨_,I',q⟩)
 ·have hk:(k+(its.toArray.size:Int)).toNat=j:=by rw[jx (by omega) h3]at h1;rw[aM,<- hl];exact bN h1
  exact W.ki_setBack ho (by omega) (by rw[aM,<- hl];exact h3) (by omega) (by rw[hk];exact⟨_,I',q⟩)
theorem EB(lo hi:Option Int)(n:Nat):(sliceBounds lo hi none n).1=((HT.sIx n 0 lo:Nat):Int)/\(sliceBounds lo hi none n).2.1=((HT.sIx n n hi:Nat):Int)/\(sliceBounds lo hi none n).2.2=1:=by
 refine⟨?_,?_,rfl⟩
 ·cases lo with
  |none=>simp[sliceBounds,HT.sIx]
  |some i=>
   simp only[sliceBounds,HT.sIx,ly,show (1:Int) > 0 by decide,if_true];by_cases h:i<0
   ·simp only[h,if_true]<;>omega
   ·simp only[h,if_false]<;>omega
 ·cases hi with
  |none=>simp[sliceBounds,HT.sIx]
  |some i=>
   simp only[sliceBounds,HT.sIx,ly,show (1:Int) > 0 by decide,if_true];by_cases h:i<0
   ·simp only[h,if_true]<;>omega
   ·simp only[h,if_false]<;>omega
theorem Dm(its:List aa)(lo hi:Option Int):slicePick its.toArray lo hi none=((its.drop (HT.sIx its.length 0 lo)).take (HT.sIx its.length its.length hi - HT.sIx its.length 0 lo)).toArray:=by obtain⟨h1,h2,h3⟩:=EB lo hi its.toArray.size;unfold slicePick;rw[h1,h2,h3];simp only[sliceRange_one,pick_run,aM]<;>rfl
def NG(K:ak):V->Option Int->Option Int->Hp->VK->Prop:=λx lo hi H Q=>∃a xs,x=.ref a/\SqL K H a xs/\∀p,H p=none->Q (.ref p) (upd H p (.lst (Fo xs lo hi)))
theorem NH:SlR X (NG X.K):=by intro pins s σ H x v vl vu lo hi sl Q I rx hs pl pu h;obtain⟨a,xs,rfl,hx,q⟩:=h;cases rx;obtain⟨its,r,ht,hz⟩:=I.list hx;have hlen:=r.length;refine⟨"list", _,kP.lookup,ht.isList.typeIs,?_⟩;refine wpAny_getItem_list_slice ht.isList hs pl pu .none (by simp) ?_ (by rw[aM]<;>omega);rw[Dm,<- hlen];refine⟨.ref s.heap.objs.size,_,I.laid (t':=s.toks) (o:=.lst (Fo xs lo hi)) (λb ob q=>aA _ q) (aC _) ?_,rfl,q _ (I.hok.fresh (aC _))⟩;exact⟨bc (AX xs lo hi) hz,_,0,(r.drop (HT.sIx xs.length 0 lo)).take (HT.sIx xs.length xs.length hi - HT.sIx xs.length 0 lo),aU _ rfl⟩
def yX:V->Bool
 |.non=>true
 |.bl _=>true
 |.int _=>true
 |.str _=>true
 |_=>false
def eqV:V->V->Bool
 |.non,.non=>true
 |.bl a,.bl b=>a==b
 |.bl a,.int b=>(if a then 1 else 0)==b
 |.int a,.bl b=>a==(if b then 1 else 0)
 |.int a,.int b=>a==b
 |.str a,.str b=>a==b
 |_,_=>false
theorem BU{A:av}{s:ab}{x:V}{v:aa}(ry:RelV y u)(rx:RelV x v)(fy:yX y=true)(fx:yX x=true):f9 A s u v (eqV y x):=by
 cases y with
 |non=>
  cases ry;cases x with
  |non=>cases rx;exact ja _
  |bl b=>cases rx;exact oA b
  |int b=>obtain⟨t,rfl⟩:=rx;exact kn b t
  |str b=>obtain⟨t,rfl⟩:=rx;exact ko b t
  |_=>exact ao (show false=true from fx) aT
 |bl a=>
  cases ry;cases x with
  |non=>cases rx;exact oB a
  |bl b=>cases rx;exact oE a b
  |int b=>obtain⟨t,rfl⟩:=rx;exact oO a b t
  |str b=>obtain⟨t,rfl⟩:=rx;exact oP a b t
  |_=>exact ao (show false=true from fx) aT
 |int a=>
  obtain⟨t',rfl⟩:=ry;cases x with
  |non=>cases rx;exact kq a t'
  |bl b=>cases rx;exact oQ a t' b
  |int b=>obtain⟨t,rfl⟩:=rx;exact oZ a t' b t
  |str b=>obtain⟨t,rfl⟩:=rx;exact kB a t' b t
  |_=>exact ao (show false=true from fx) aT
 |str a=>
  obtain⟨t',rfl⟩:=ry;cases x with
  |non=>cases rx;exact kr a t'
  |bl b=>cases rx;exact oR a t' b
  |int b=>obtain⟨t,rfl⟩:=rx;exact kC a t' b t
  |str b=>obtain⟨t,rfl⟩:=rx;exact o3 a t' b t
  |_=>exact ao (show false=true from fx) aT
 |_=>exact ao (show false=true from fy) aT
def eqU(x:V)(u:aa):Bool:=match u with
 |.none=>eqV .non x
 |.bool b=>eqV (.bl b) x
 |.int i _=>eqV (.int i) x
 |.str z _=>eqV (.str z) x
 |_=>false
theorem KE{x:V}(r:RelV y u)(f:yX y=true):eqU x u=eqV y x:=by
 cases y with
 |non=>cases r;rfl
 |bl b=>cases r;rfl
 |int i=>obtain⟨t,rfl⟩:=r;rfl
 |str z=>obtain⟨t,rfl⟩:=r;rfl
 |_=>exact ao (show false=true from f) aT
theorem zH{x:V}:∀{xs:List V} {us:List aa},Vals xs us->xs.all yX=true->us.any (eqU x)=xs.any λy=>eqV y x
 |_,_,.nil,_=>rfl
 |y::xs,u::us,.cons r t,f=>by rw[fo,aF]at f;rw[d8,d8,KE r f.1,zH t f.2]
theorem xV{A:av}{s:ab}{x:V}{v:aa}(rx:RelV x v)(fx:yX x=true):∀{xs:List V} {us:List aa},Vals xs us->xs.all yX=true->∀u∈us,f9 A s u v (eqU x u)
 |_,_,.nil,_=>λu hu=>by cases hu
 |y::xs,u::us,.cons r t,f=>λu' hu=>by
  rw[fo,aF]at f;rcases aH.mp hu with rfl|hu
  ·rw[KE r f.1];exact BU r rx f.1 fx
  ·exact xV rx fx t f.2 u' hu
def inV(x:V)(xs:List V):Bool:=xs.any λy=>eqV y x
def rIn(K:ak)(neg:Bool):R2:=λx y H Q=>∃p xs,y=.ref p/\(SqL K H p xs\/SqT K H p xs)/\yX x=true/\xs.all yX=true/\Q (.bl (if neg then !inV x xs else inV x xs)) H
theorem Jz:OpR X (aV .In) (rIn X.K false):=by
 intro pins s σ H x y v u Q I rx ry h;obtain⟨p,xs,rfl,hq,fx,fs,q⟩:=h;cases ry;rcases hq with hq|hq
 ·obtain⟨its,r,pl,hz⟩:=I.list hq;refine SeqAt.in_listAt (eqU x) pl.isList (λw hw=>xV rx fx r fs w (by simpa using hw)) ⟨.bl _,H,I,rfl,?_⟩;rw[show its.toArray.any (eqU x)=its.any (eqU x) by simp,zH r fs];exact q
 ·obtain⟨its,r,pl,hz⟩:=I.tuple hq;refine SeqAt.in_tupleAt (eqU x) pl (λw hw=>xV rx fx r fs w (by simpa using hw)) ⟨.bl _,H,I,rfl,?_⟩;rw[show its.toArray.any (eqU x)=its.any (eqU x) by simp,zH r fs];exact q
theorem EC:OpR X (aV .NotIn) (rIn X.K true):=by
 intro pins s σ H x y v u Q I rx ry h;obtain⟨p,xs,rfl,hq,fx,fs,q⟩:=h;cases ry;rcases hq with hq|hq
 ·obtain⟨its,r,pl,hz⟩:=I.list hq;refine kF (eqU x) pl.isList (λw hw=>xV rx fx r fs w (by simpa using hw)) ⟨.bl _,H,I,rfl,?_⟩;rw[show its.toArray.any (eqU x)=its.any (eqU x) by simp,zH r fs];exact q
 ·obtain⟨its,r,pl,hz⟩:=I.tuple hq;refine SeqAt.notIn_tupleAt (eqU x) pl (λw hw=>xV rx fx r fs w (by simpa using hw)) ⟨.bl _,H,I,rfl,?_⟩;rw[show its.toArray.any (eqU x)=its.any (eqU x) by simp,zH r fs];exact q
theorem ED:rY X (.builtin "len") (λxs H Q=>∃p ys,xs=[.ref p]/\(SqL X.K H p ys\/SqT X.K H p ys)/\Q (.int ys.length) H):=by
 intro pins s σ H xs us Q I r h;obtain⟨p,ys,rfl,hq,q⟩:=h;obtain⟨u,rfl,rx⟩:=vals1 r;cases rx;have hn:=Ao;rcases hq with hq|hq
 ·obtain⟨its,r',pl,hz⟩:=I.list hq;have hlen:=r'.length;exact Calls.call_len_list pl.isList (by simp only[aM]<;>omega) ⟨.int ys.length,H,I.tok _,⟨s.toks+1,by rw[aM,hlen]⟩,q⟩
 ·obtain⟨its,r',pl,hz⟩:=I.tuple hq;have hlen:=r'.length;exact len_tuple pl (by simp only[aM]<;>omega) ⟨.int ys.length,H,I.tok _,⟨s.toks+1,by rw[aM,hlen]⟩,q⟩
theorem EE:rY X (.builtin "len") (λxs H Q=>∃z,xs=[.str z]/\z.length<=ay/\Q (.int z.length) H):=by intro pins s σ H xs us Q I r h;obtain⟨z,rfl,hz,q⟩:=h;obtain⟨u,rfl,t,rfl⟩:=vals1 r;have hn:=Ao;exact len_str (by omega) ⟨.int z.length,H,I.tok _,⟨_,rfl⟩,q⟩
theorem EF:rY X (.type "list") (λxs H Q=>∃p ys,xs=[.ref p]/\(SqL X.K H p ys\/SqT X.K H p ys)/\∀l,H l=none->Q (.ref l) (upd H l (.lst ys))):=by
 intro pins s σ H xs us Q I r h;obtain⟨p,ys,rfl,hq,q⟩:=h;obtain⟨u,rfl,rx⟩:=vals1 r;cases rx;have fin:∀(its:List aa),Vals ys its->ys.length<=ay->∀(h':Heap) (c':Nat),(∀b o',s.heap.get? b=some o'->h'.get? b=some o')->
   h'.get? s.heap.objs.size=some { cls:=.type "list", dict:=none,data:=.seq its.toArray c',slots:=#[] }->EP X pins σ Q (.ref s.heap.objs.size) { s with heap:=h' }:=λits r' hz h' c' kp e=>
  ⟨.ref s.heap.objs.size,_,I.laid (t':=s.toks) kp (aC _) (show qL X.prog X.w _ h' _ (.lst ys) from⟨hz,its,c',r',e⟩),rfl,q _ (I.hok.fresh (aC _))⟩
 rcases hq with hq|hq
 ·obtain⟨its,r',pl,hz⟩:=I.list hq;have hlen:=r'.length;obtain⟨o,ho,hc,n,hd⟩:=pl.isList;exact mF p (.inl rfl) ho hc hd (λh' c' kp e=>fin its r' hz h' c' kp e) (by simp only[aM]<;>omega)
 ·obtain⟨its,r',pl,hz⟩:=I.tuple hq;have hlen:=r'.length;obtain⟨o,ho,hc,n,hd⟩:=pl;exact mF p (.inr rfl) ho hc hd (λh' c' kp e=>fin its r' hz h' c' kp e) (by simp only[aM]<;>omega)
def tyV(K:ak)(T:String)(x:V)(H:Hp):Prop:=match x with
 |.str _=>T="str"
 |.int _=>T="int"
 |.ref p=>(T="list" /\ ∃xs,SqL K H p xs)\/(T="tuple" /\ ∃o,K.lookup p=some o/\o.cls=.type "tuple" /\ o.dict=none)\/
   (T="dict" /\ ((∃kvs,H p=some (.dK kvs))\/∃kvs,H p=some (.dT kvs)))\/(T="set" /\ ∃S n,H p=some (.set S n))
 |_=>False
theorem KF{H:Hp}{s:ab}{x:V}{v:aa}(I:Inv X pins σ H s)(r:RelV x v)(ty:tyV X.K T x H):
  s.TypeIs v T/\∀a,v=.ref a->∃ob,s.heap.get? a=some ob/\ob.dict=none:=by
 cases x with
 |str z=>obtain⟨t,rfl⟩:=r;cases (show T="str" from ty);exact⟨typeIs_str s z t,λ_ e=>nomatch e⟩
 |int i=>obtain⟨t,rfl⟩:=r;cases (show T="int" from ty);exact⟨jG s i t,λ_ e=>nomatch e⟩
 |ref p=>
  cases r;rcases ty with ⟨rfl,xs,hq⟩|⟨rfl,o,hk,hc,hd⟩|⟨rfl,hk⟩|⟨rfl,S,n,hk⟩
  ·obtain⟨its,_,pl,_⟩:=I.list hq;refine⟨pl.isList.typeIs,λa e=>?_⟩;cases e;obtain⟨o,n,e,c,hd,_⟩:=pl;exact⟨o,e,hd⟩
  ·refine⟨⟨o,I.kIn p o hk,hc⟩,λa e=>?_⟩;cases e;exact⟨o,I.kIn _ o hk,hd⟩
  ·have z:∃o,s.heap.get? p=some o/\o.ExactDict:=by
    rcases hk with ⟨kvs,hk⟩|⟨kvs,hk⟩
    ·obtain⟨_,_,_,_,o,_,_,e,ex,_⟩:=I.hok p _ hk;exact⟨o,e,ex⟩
    ·obtain⟨_,_,_,_,o,_,_,e,ex,_⟩:=I.hok p _ hk;exact⟨o,e,ex⟩
   obtain⟨o,e,ex⟩:=z;refine⟨⟨o,e,ex.1⟩,λa e2=>?_⟩;cases e2;exact⟨o,e,ex.2.1⟩
  ·obtain⟨o,_,_,_,e,ex,_⟩:=I.hok p _ hk;refine⟨⟨o,e,ex.1⟩,λa e2=>?_⟩;cases e2;exact⟨o,e,ex.2.1⟩
 |_=>exact b0 ty
def Uv(K:ak)(T:String)(r:V->List V->Hp->VK->Prop)(to:TE):TE:=λσ H Q=>to σ H λx H1=>tyV K T x H1/\r x [] H1 Q
def tBM(K:ak)(T:String)(r:V->List V->Hp->VK->Prop)(to:TE)(t:TA):TE:=λσ H Q=>to σ H λx H1=>tyV K T x H1/\t σ H1 λxs H2=>r x xs H2 Q
variable{o e:Expr}{es:List Expr}{to:TE}{t:TA}{name:Str}{apos cpos:Pos}{T id:String}{r:V->List V->Hp->VK->Prop}
theorem Qy(pa:ik T)(slot:Slot T name id)(hty:typeOf (.builtin id)=pure (.type "method_descriptor"))(hm:MtR X id r)(ho:PE X o to)
  (hbase:df o name X.env (eval o X.env)=eval o X.env:=by rfl) (hline:(apos.endLine==cpos.line)=true:=by rfl):PE X (.Call (.Attribute o name apos) [] [] cpos) (Uv X.K T r to):=by
 intro pins s σ H Q I h;refine wpAny_Call_method0_late hbase hline (thn (ho pins s σ H _ I h) λv s1 zz=>?_);obtain⟨x,H1,I1,r1,ty,q1⟩:=zz;obtain⟨h1,h2⟩:=KF I1 r1 ty;exact⟨T,id,pa,slot,hty,h1,h2,fG rfl (PySem.evalArgs_none (hm pins s1 σ H1 x [] v [] Q I1 r1 .nil q1))⟩
theorem Uw(pa:ik T)(slot:Slot T name id)(hty:typeOf (.builtin id)=pure (.type "method_descriptor"))(hm:MtR X id r)(ho:PE X o to)(ha:PA X (e::es) t)
  (hbase:df o name X.env (eval o X.env)=eval o X.env:=by rfl)
  (hfew:((ba cpos (aw (e::es) X.env)).all (λx=>!x.1)&&(backToKw cpos (cM [] X.env)).all (λx=>x.1.isSome)
   && decide ((e::es).length+([]:List dN).length+(if ([]:List dN).isEmpty then 0 else 1)<30))=true:=by rfl)
  (hline:(apos.endLine==cpos.line)=true:=by rfl) (hs:aw (e::es) X.env=(false,eval e X.env)::aw es X.env:=by rfl) (hplain:(ba cpos (aw es X.env)).any (·.1)=false:=by rfl):
  PE X (.Call (.Attribute o name apos) (e::es) [] cpos) (tBM X.K T r to t):=by
 intro pins s σ H Q I h;refine wpAny_Call_method_late hbase hfew hline rfl (thn (ho pins s σ H _ I h) λv s1 zz=>?_);obtain⟨x,H1,I1,r1,ty,q1⟩:=zz;obtain⟨h1,h2⟩:=KF I1 r1 ty;refine⟨T,id,pa,slot,hty,h1,h2,?_⟩;have hA:=ha cpos pins s1 σ H1 _ I1 q1;rw[hs]at hA ⊢;refine fG (by show (false||(ba cpos (aw es X.env)).any (·.1))=false;rw[hplain]<;>rfl) (gQ ?_)
 exact thn hA λus s2 ⟨vs,H2,I2,r2,q2⟩=>hm pins s2 σ H2 x vs v us Q I2 r1 r2 q2
end
def MtM(X:Cx)(id:String)(r:V->List V->Hp->VK->Prop):Prop:=
 ∀(pins:List (Addr×Obj)) (s:ab) (σ:St) (H:Hp) (x:V) (xs:List V) (v:aa) (us:List aa) (Q:VK),Inv X pins σ H s->RelV x v->Vals xs us->r x xs H Q->
  ag (model X.prog X.w) X.A (call (.builtin id) (v::us)) (EP X pins σ Q) X.xe s
theorem Vals.one:∀{x:V} {us:List aa},Vals [x] us->∃u,us=[u]/\RelV x u
 |_,_,.cons r .nil=>⟨_,rfl,r⟩
theorem Vals.zero:∀{us:List aa},Vals [] us->us=[]
 |_,.nil=>rfl
theorem Vals.rep{xs:List V}(h:Vals xs us):∀k:Nat,Vals (br k xs).flatten (br k us).flatten
 |0=>.nil
 |k+1=>by rw[dS,dS,eS,eS];exact Vals.append h (Vals.rep h k)
theorem foldl_rep(its:List aa):∀(k:Nat) (acc:List aa),
  jH (λx1 x2=>x1++x2) acc.toArray (br k its.toArray)=(acc++(br k its).flatten).toArray
 |0,acc=>by simp
 |k+1,acc=>by
  have e:acc.toArray++its.toArray=(acc++its).toArray:=by simp
  have e2:(acc++its)++(br k its).flatten=acc++(br (k+1) its).flatten:=by rw[dS,eS,bq]
  rw[<-e2,<- foldl_rep its k (acc++its),<- e,dS,fS]
variable{t':Nat}
section
variable{X:Cx}{pins:List (Addr×Obj)}{σ:St}{H:Hp}{s:ab}{l b:Addr}{xs ys zs:List V}
theorem Inv.lset{n:Nat}{f:Array aa->Array aa}(I:Inv X pins σ H s)(hH:H l=some (.lst xs))
  (e:s.heap.get? l=some { cls:=.type "list", data:=.seq its.toArray n }) (hf:f its.toArray=its'.toArray) (hv:Vals ys its') (hz:ys.length<=ay):
  Inv X pins σ (upd H l (.lst ys)) { s with heap:=s.heap.update l (cN f),toks:=t' }:=by
 have q:=PySem.IsL.update e f;rw[hf]at q;refine I.write (x:=l) (e:=l) (by rw[hH];exact trivial) (.inl rfl) (λb' u hb hu=>(gG s.heap (cN f) (cQ hb)).trans hu) ⟨_,q⟩ ?_;exact⟨hz,its',_,hv,q⟩
theorem Inv.lnew(I:Inv X pins σ H s)(hv:Vals ys its)(hz:ys.length<=ay):
  Inv X pins σ (upd H s.heap.objs.size (.lst ys)) { s with heap:=s.heap.push { cls:=.type "list", data:=.seq its.toArray },toks:=t' }:=
 I.laid (λ_ _ q=>aA _ q) (aC _) ⟨hz,its,0,hv,aU _ rfl⟩
theorem Inv.fresh(I:Inv X pins σ H s):H s.heap.objs.size=none:=I.hok.fresh (aC _)
theorem Inv.lstM(I:Inv X pins σ H s)(hH:H l=some (.lst xs)):xs.length<=ay/\∃(its:List aa) (n:Nat),Vals xs its/\xs.length=its.length/\s.heap.get? l=some { cls:=.type "list", data:=.seq its.toArray n }:=by obtain⟨z,its,n,r,e⟩:=I.hok l _ hH;exact⟨z,its,n,r,r.length,e⟩
theorem BV{n:Nat}(h:n<=ay):eI n=false:=by unfold eI;exact aN (by omega)
end
section
variable{X:Cx}
def EG:V->List V->Hp->VK->Prop:=λx vs H Q=>∃l xs y,x=.ref l/\vs=[y]/\H l=some (.lst xs)/\xs.length<ay/\Q .non (upd H l (.lst (xs++[y])))
theorem Ar:MtM X "list.append" EG:=by intro pins s σ H x vs v us Q I rx rv h;obtain⟨l,xs,y,rfl,rfl,hH,hz,q⟩:=h;cases rx;obtain⟨u,rfl,ru⟩:=rv.one;obtain⟨z,its,n,r,hl,e⟩:=I.lstM hH;refine fz iM ⟨_,e,rfl⟩ F.entry_list_append (F.args_list_append_2 _ _) (PySem.list_append l its.toArray n u (by rw[aM];omega)) ⟨e,?_⟩;refine⟨.non,_,I.lset (its':=its++[u]) hH e (by simp) (r.append (.cons ru .nil)) ?_,rfl,q⟩;rw[au,bP];omega
def Ii:V->List V->Hp->VK->Prop:=λx vs H Q=>∃l b xs zs,x=.ref l/\vs=[.ref b]/\H l=some (.lst xs)/\H b=some (.lst zs)/\xs.length+zs.length<=ay/\Q .non (upd H l (.lst (xs++zs)))
theorem JA:MtM X "list.extend" Ii:=by
 intro pins s σ H x vs v us Q I rx rv h;obtain⟨l,b,xs,zs,rfl,rfl,hH,hB,hz,q⟩:=h;cases rx;obtain⟨u,rfl,ru⟩:=rv.one;cases ru;obtain⟨z,its,n,r,hl,e⟩:=I.lstM hH;obtain⟨z2,its2,n2,r2,hl2,e2⟩:=I.lstM hB;have hsz:its.toArray.size+its2.toArray.size<=ay:=by rw[aM,aM];omega
 have hlong:¬(!its.toArray.isEmpty&&eI (its.toArray.size+its2.toArray.size))=true:=by rw[BV hsz,md];exact aT
 refine fz gU ⟨_,e,rfl⟩ ku (kc _ _)
  (AutoSeq1.list_extend_list_list_0 l its.toArray n b its2.toArray n2 hlong (by rw[aM];omega) (by omega)) ⟨e,e2,?_⟩
 refine⟨.non,_,I.lset (its':=its++its2) hH e (by simp) (r.append r2) ?_,rfl,q⟩;rw[au];omega
def KG:V->List V->Hp->VK->Prop:=λx vs H Q=>∃l xs,x=.ref l/\vs=[]/\H l=some (.lst xs)/\Q .non (upd H l (.lst []))
theorem KH:MtM X "list.clear" KG:=by intro pins s σ H x vs v us Q I rx rv h;obtain⟨l,xs,rfl,rfl,hH,q⟩:=h;cases rx;have hus:=rv.zero;subst hus;obtain⟨z,its,n,r,hl,e⟩:=I.lstM hH;refine fz kQ ⟨_,e,rfl⟩ F.entry_list_clear (F.args_list_clear_1 _) (AutoSeq1.list_clear_list_0 l its.toArray n (by rw[aM];omega)) ⟨e,?_⟩;exact⟨.non,_,I.lset (its':=[]) (ys:=[]) hH e rfl .nil (bR _),rfl,q⟩
def VN:R2:=λx y H Q=>∃l b xs zs,x=.ref l/\y=.ref b/\H l=some (.lst xs)/\H b=some (.lst zs)/\xs.length+zs.length<=ay/\∀p,H p=none->Q (.ref p) (upd H p (.lst (xs++zs)))
theorem Qz:OpR X (bO .Add) VN:=by
 intro pins s σ H x y v u Q I rx ry h;obtain⟨l,b,xs,zs,rfl,rfl,hH,hB,hz,q⟩:=h;cases rx;cases ry;obtain⟨z,its,n,r,hl,e⟩:=I.lstM hH;obtain⟨z2,its2,n2,r2,hl2,e2⟩:=I.lstM hB;refine PySem.P.add_list e e2 ?_ (by rw[aM,aM];omega);have ea:its.toArray++its2.toArray=(its++its2).toArray:=by simp
 rw[ea];exact⟨.ref _,_,I.lnew (t':=s.toks) (r.append r2) (by rw[au];omega),rfl,q _ I.fresh⟩
def VO:R2:=λx y H Q=>∃l k xs,x=.ref l/\y=.int k/\H l=some (.lst xs)/\-(2 ^ 63)<=k/\k<2 ^ 63/\xs.length * k.toNat<=ay/\
 ∀p,H p=none->Q (.ref p) (upd H p (.lst (br k.toNat xs).flatten))
theorem len_rep{α:Type}(xs:List α)(k:Nat):(br k xs).flatten.length=k * xs.length:=by
 induction k with
 |zero=>simp
 |succ k ih=>rw[dS,eS,au,ih,Nat.succ_mul,Nat.add_comm]
theorem QA:OpR X (bO .Mult) VO:=by
 intro pins s σ H x y v u Q I rx ry h;obtain⟨l,k,xs,rfl,rfl,hH,h1,h2,hz,q⟩:=h;cases rx;obtain⟨t,rfl⟩:=ry;obtain⟨z,its,n,r,hl,e⟩:=I.lstM hH;have hlen:its.toArray.size * k.toNat<=ay:=by rw[aM,<- hl];exact hz
 have hcap:¬its.toArray.size * k.toNat > (2 ^ 63 - 1) / 8:=by
  have:(ay:Nat)<=(2 ^ 63 - 1) / 8:=by decide
  omega
 have hfit:¬(!Builtin.List.listFitsIndex k)=true:=by rw[fitsIndex_both h1 h2];exact aT
 have hlong:¬eI (its.toArray.size * k.toNat)=true:=by rw[BV hlen];exact aT
 have hnew:jH (λx1 x2=>x1++x2) #[] (br (if its.toArray.isEmpty=true then 0 else k.toNat) its.toArray)=(br k.toNat its).flatten.toArray:=by
  have f0:∀m:Nat,jH (λx1 x2=>x1++x2) #[] (br m its.toArray)=(br m its).flatten.toArray:=λm=>by have:=foldl_rep its m [];rw[bY]at this;exact this
  rw[f0];cases its with
  |nil=>simp
  |cons a r'=>rw[aj (by simp)]
 refine wpAny_binaryOp_repeat_ref (T:="list") (U:="int") (by decide) ⟨_,e,rfl⟩ (λs'=>jG s' k t) noFill_list_mul F.fills_int_mul lQ repeat_list F.slot_int_index.lookup
  (fz lQ (jG s k t) F.entry_int_rmul (F.args_int_rmul_2 _ _) (int___rmul___int_list k t l its.toArray n)
   ⟨e,rfl,⟨_,e,rfl⟩,fz F.slot_list_mul ⟨_,e,rfl⟩ F.entry_list_mul (F.args_list_mul_2 _ _) (AutoListH.list___mul___list_int_3 l its.toArray n k t hfit hcap hlong) ⟨e,?_⟩⟩)
 rw[hnew];exact⟨.ref _,_,I.lnew (t':=s.toks) (r.rep k.toNat) (by rw[len_rep,Nat.mul_comm];exact hz),rfl,q _ I.fresh⟩
end
section
variable{prog:ar}{w:aq}{A:av}{E:aa->ab->Prop}{s:ab}
set_option maxRecDepth 100000 in
end
section
variable{κ:Type}[DecidableEq κ]
def tY(kvs:List (κ×V))(k:κ):Option V:=(kvs.find? λkv=>decide (kv.1=k)).map (·.2)
def putK(kvs:List (κ×V))(k:κ)(v:V):List (κ×V):=
 if (kvs.any λkv=>decide (kv.1=k))=true then kvs.map (λkv=>if kv.1=k then (kv.1,v)else kv)else kvs++[(k,v)]
theorem zI{p:κ×V}{r:List (κ×V)}{k:κ}(e:p.1=k):tY (p::r) k=some p.2:=by simp[tY,dE,e]
theorem zJ{p:κ×V}{r:List (κ×V)}{k:κ}(e:¬p.1=k):tY (p::r) k=tY r k:=by simp[tY,dE,e]
theorem BW(k:κ):∀kvs:List (κ×V),(kvs.any λkv=>decide (kv.1=k))=(tY kvs k).isSome
 |[]=>rfl
 |p::r=>by
  rw[d8];by_cases e:p.1=k
  ·simp only[zI e,aR e,Bool.true_or,Option.isSome_some]
  ·rw[zJ e,aN e,Bool.false_or];exact BW k r
theorem xW(kvs:List (κ×V))(k:κ)(v:V):(putK kvs k v).length<=kvs.length+1:=by
 unfold putK;split
 ·rw[af];omega
 ·rw[au,aB,de];omega
theorem KI{kvs:List (κ×V)}{k:κ}(v:V)(h:tY kvs k=none):putK kvs k v=kvs++[(k,v)]:=by unfold putK;rw[BW,h];exact aj (by decide)
theorem xT.isSome_eq{o:Option V}{u:Option aa}(r:xT o u):o.isSome=u.isSome:=by
 cases o with
 |none=>cases u with
  |none=>rfl
  |some _=>exact(show False from r).elim
 |some _=>cases u with
  |none=>exact(show False from r).elim
  |some _=>rfl
theorem xT.getD{o:Option V}{u:Option aa}{d:V}{d':aa}(r:xT o u)(rd:RelV d d'):RelV (o.getD d) (u.getD d'):=by
 cases o with
 |none=>cases u with
  |none=>exact rd
  |some _=>exact(show False from r).elim
 |some _=>cases u with
  |none=>exact(show False from r).elim
  |some _=>exact r
theorem KV.val{kvs:List (κ×V)}{vs:List (κ×aa)}(r:KV kvs vs)(k:κ):xT (tY kvs k) (valueAt vs k):=by
 unfold KV at r
 induction r with
 |nil=>exact True.intro
 |@cons p q ps qs h t ih=>
  obtain⟨h1,h2⟩:=h;by_cases e:p.1=k
  ·have e':q.1=k:=h1.symm.trans e;have b:valueAt (q::qs) k=some q.2:=by simp[valueAt,dE,e']
   rw[zI e,b];exact h2
  ·have e':¬q.1=k:=λz=>e (h1.trans z);have b:valueAt (q::qs) k=valueAt qs k:=by simp[valueAt,dE,e']
   rw[zJ e,b];exact ih
theorem KV.any{kvs:List (κ×V)}{vs:List (κ×aa)}(r:KV kvs vs)(k:κ):(kvs.any λkv=>decide (kv.1=k))=vs.any λkv=>decide (kv.1=k):=by
 unfold KV at r
 induction r with
 |nil=>rfl
 |cons h t ih=>rw[d8,d8,ih,h.1]
theorem KV.repl{kvs:List (κ×V)}{vs:List (κ×aa)}(r:KV kvs vs)(k:κ)(ry:RelV y u):
  KV (kvs.map λkv=>if kv.1=k then (kv.1,y)else kv) (vs.map λkv=>if kv.1=k then (kv.1,u)else kv):=by
 unfold KV at r ⊢
 induction r with
 |nil=>exact .nil
 |@cons p q ps qs h t ih=>
  rw[aG,aG];refine .cons ?_ ih;obtain⟨h1,h2⟩:=h;by_cases e:p.1=k
  ·rw[ah e,ah (h1.symm.trans e)];exact⟨h1,ry⟩
  ·rw[aj e,aj (λz=>e (h1.trans z))];exact⟨h1,h2⟩
theorem KV.put{kvs:List (κ×V)}{vs:List (κ×aa)}(r:KV kvs vs)(k:κ)(ry:RelV y u):KV (putK kvs k y) (stored vs k u):=by
 unfold putK stored;rw[r.any k];by_cases e:(vs.any λkv=>decide (kv.1=k))=true
 ·rw[ah e,ah e];exact r.repl k ry
 ·rw[aj e,aj e];exact m3 r ⟨rfl,ry⟩
theorem KV.length{kvs:List (κ×V)}{vs:List (κ×aa)}(r:KV kvs vs):kvs.length=vs.length:=jh r
end
theorem BX{P:ar}{w:aq}{k:Key}(r:RelV (kV k) u):(pZ P w).is k u=true:=by
 cases k with
 |inl i=>obtain⟨t,e⟩:=(show ∃t,u=Value.int i t from r);subst e;exact Fg P w i t
 |inr x=>obtain⟨t,e⟩:=(show ∃t,u=Value.str x t from r);subst e;exact Fh P w x t
theorem DL{P:ar}{w:aq}:∀{ks:List Key} {us:List aa},Vals (ks.map kV) us->ItemsAre (pZ P w) ks us
 |[],_,r=>by rw[eA]at r;cases r;exact .nil
 |k::ks,_,r=>by
  rw[aG]at r;cases r with
  |cons h t=>exact .cons (BX h) (DL t)
abbrev KT(H:Hp):List (List Key×V)->List (List Key×Addr×aa)->Prop:=fC λp q=>p.1=q.1/\H q.2.1=some (.tup (p.1.map kV))/\RelV p.2 q.2.2
variable{kvs:List (List Key×V)}{xs:List (List Key×Addr×aa)}
theorem KT.val{H:Hp}(r:KT H kvs xs)(k:List Key):xT (tY kvs k) ((atKey xs k).map (·.2)):=by
 induction r with
 |nil=>exact True.intro
 |@cons p q ps qs h t ih=>
  obtain⟨h1,_,h2⟩:=h;by_cases e:p.1=k
  ·have e':q.1=k:=h1.symm.trans e;have b:atKey (q::qs) k=some q.2:=by simp[atKey,dE,e']
   rw[zI e,b];exact h2
  ·have e':¬q.1=k:=λz=>e (h1.trans z);have b:atKey (q::qs) k=atKey qs k:=by simp[atKey,dE,e']
   rw[zJ e,b];exact ih
theorem KT.repl{H:Hp}(r:KT H kvs xs)(k:List Key)(ry:RelV y u):
  KT H (kvs.map λkv=>if kv.1=k then (kv.1,y)else kv) (xs.map (putAt k u)):=by
 induction r with
 |nil=>exact .nil
 |@cons p q ps qs h t ih=>
  rw[aG,aG];refine .cons ?_ ih;obtain⟨h1,h2,h3⟩:=h;unfold putAt;by_cases e:p.1=k
  ·rw[ah e,ah (h1.symm.trans e)];exact⟨h1,h2,ry⟩
  ·rw[aj e,aj (λz=>e (h1.trans z))];exact⟨h1,h2,h3⟩
theorem KT.put{H:Hp}(r:KT H kvs xs)(k:List Key){b:Addr}(hb:H b=some (.tup (k.map kV)))(ry:RelV y u):
  KT H (putK kvs k y) (storedH xs k b u):=by
 have e:(kvs.any λkv=>decide (kv.1=k))=(atKey xs k).isSome:=by rw[BW,(r.val k).isSome_eq,Option.isSome_map]
 unfold putK storedH;rw[e];by_cases q:(atKey xs k).isSome=true
 ·rw[ah q,ah q];exact r.repl k ry
 ·rw[aj q,aj q];exact m3 r ⟨rfl,hb,ry⟩
variable{H':Hp}
theorem KT.keeps{H:Hp}(r:KT H kvs xs)(ht:∀b ys,H b=some (.tup ys)->H' b=some (.tup ys)):KT H' kvs xs:=
 Paired.mapP r λ_ _ z=>⟨z.1,ht _ _ z.2.1,z.2.2⟩
section
variable{P:ar}{w:aq}{H:Hp}{h:Heap}{a:Addr}
theorem Pp{u:HO}(ok:HOk P w H h)(e:Rd H a u):qL P w H h a u:=e.ok ok
theorem BY{kvs:List (Key×V)}(ok:HOk P w H h)(e:Rd H a (.dK kvs)):kvs.length<=ay/\(a==cw)=false/\∃vs,KV kvs vs/\h.DictOf (pZ P w) a vs:=
 show qL P w H h a (.dK kvs) from Pp ok e
theorem Pq{kvs:List (Key×V)}(ok:HOk P w H h)(e:H a=some (.dK kvs)):kvs.length<=ay/\(a==cw)=false/\∃vs,KV kvs vs/\h.DictOf (pZ P w) a vs:=BY ok (.inl e)
theorem EH{ks:List Key}(ok:HOk P w H h)(e:H a=some (.tup (ks.map kV))):(tupleKind (pZ P w)).is h ks a:=by obtain⟨_,its,r,o,h1,h2,n,h3⟩:=(show qL P w H h a (.tup (ks.map kV)) from ok a _ e);exact⟨o,its.toArray,n,h1,h2,h3,by simpa using DL r⟩
theorem Fp(ok:HOk P w H h)(e:Rd H a (.dT kvs)):kvs.length<=ay/\(a==cw)=false/\
  ∃xs,KT H kvs xs/\h.DictOfH (tupleKind (pZ P w)) a xs:=by
 obtain⟨z,y,xs,r,o,es,ep,h1,h2,h3,h4,h5⟩:=(show qL P w H h a (.dT kvs) from Pp ok e);refine⟨z,y,xs,r,o,es,ep,h1,h2,h3,h4,λx hx=>?_,h5⟩;have all:∀{l:List (List Key×V)} {m:List (List Key×Addr×aa)},KT H l m->∀x∈m,(tupleKind (pZ P w)).is h x.1 x.2.1:=by
  intro l m q
  induction q with
  |nil=>intro x hx;exact nomatch hx
  |@cons p q ps qs hq t ih=>
   intro x hx;rcases aH.mp hx with e|hx
   ·subst e;exact EH ok (by rw[<-hq.1];exact hq.2.1)
   ·exact ih x hx
 exact all r x hx
theorem Ux(ok:HOk P w H h)(e:H a=some (.dT kvs)):kvs.length<=ay/\(a==cw)=false/\
  ∃xs,KT H kvs xs/\h.DictOfH (tupleKind (pZ P w)) a xs:=Fp ok (.inl e)
end
def DGet(H:Hp)(a:Addr)(y:V)(r:Option V):Prop:=
 (∃kvs k,Rd H a (.dK kvs)/\y=kV k/\r=tY kvs k)\/∃kvs k b,Rd H a (.dT kvs)/\y=.ref b/\H b=some (.tup (k.map kV))/\r=tY kvs k
def KJ(H:Hp)(a:Addr)(y v:V)(H':Hp):Prop:=
 (∃kvs k,H a=some (.dK kvs)/\y=kV k/\kvs.length<ay/\H'=upd H a (.dK (putK kvs k v)))\/
 ∃kvs k b,H a=some (.dT kvs)/\y=.ref b/\H b=some (.tup (k.map kV))/\kvs.length<ay/\H'=upd H a (.dT (putK kvs k v))
theorem KJ.k{H:Hp}{a:Addr}{kvs:List (Key×V)}{k:Key}{v:V}(e:H a=some (.dK kvs))(hl:kvs.length<ay):KJ H a (kV k) v (upd H a (.dK (putK kvs k v))):=.inl ⟨kvs,k,e,rfl,hl,rfl⟩
variable{Q:aa->ab->Prop}{h':Heap}
section
variable{X:Cx}{pins:List (Addr×Obj)}{σ:St}{H:Hp}{s:ab}{a:Addr}{y v:V}{u r:aa}{o:Option V}{A:av}{E:aa->ab->Prop}
theorem Inv.big(I:Inv X pins σ H s):cw<s.heap.objs.size:=by have h:aK<s.heap.objs.size:=(I.mod.glob.keeps I.bk).lt;exact Nat.lt_trans (by decide) h
theorem JB(hu:A.units+1<cLine)(I:Inv X pins σ H s)(g:DGet H a y (some v))(ry:RelV y u)(h:∀w' s',Inv X pins σ H s'->RelV v w'->Q w' s'):
  ag (model X.prog X.w) A (getItem (.ref a) u) Q E s:=by
 rcases g with ⟨kvs,k,e,ey,l⟩|⟨kvs,k,b,e,ey,eb,l⟩
 ·subst ey;obtain⟨z,hd,vs,rel,dd⟩:=BY I.hok e;obtain⟨w',hw,rw'⟩:=xT.some_of (v:=v) (o:=valueAt vs k) (by rw[l];exact rel.val k);exact wpAny_getItem_of (BX ry) dd.mapOf hw (h w' _ (I.tok _) rw')
 ·subst ey;cases (show u=Value.ref b from ry);obtain⟨z,hd,xs,rel,dd⟩:=Fp I.hok e;obtain⟨w',hw,rw'⟩:=xT.some_of (v:=v) (o:=(atKey xs k).map (·.2)) (by rw[l];exact rel.val k)
  obtain⟨p,hp,hp2⟩:=Option.map_eq_some_iff.mp hw;refine wpAny_getItem_heap (iN hu) (EH I.hok eb) dd hp ?_;rw[hp2];exact h w' _ (I.tok _) rw'
theorem EI{ob:HO}(I:Inv X pins σ H s)(mu:Mut (H a))(hs:cu a s.heap h')(he:∃q,h'.get? a=some q)(new:qL X.prog X.w (upd H a ob) h' a ob):
  Inv X pins σ (upd H a ob) { s with heap:=h',toks:=t' }:=
 I.write (x:=a) (e:=a) mu (.inl rfl) (λb q hb z=>(hs.2 b hb).trans z) he new
theorem KL{P:ar}{w:aq}{kvs:List (Key×V)}{vs:List (Key×aa)}(z:kvs.length<=ay)(hd:(a==cw)=false)(rel:KV kvs vs)(dd:h'.DictOf (pZ P w) a vs):
  qL P w H' h' a (.dK kvs):=⟨z,hd,vs,rel,dd⟩
theorem JC{Q:Unit->ab->Prop}(hu:A.units+1<cLine)(I:Inv X pins σ H s)(g:KJ H a y v H')(ry:RelV y u)(rv:RelV v r)(h:∀s',Inv X pins σ H' s'->Q () s'):
  ag (model X.prog X.w) A (setItem (.ref a) u r) Q E s:=by
 rcases g with ⟨kvs,k,e,ey,l,eH⟩|⟨kvs,k,b,e,ey,eb,l,eH⟩
 ·subst ey eH;obtain⟨z,hd,vs,rel,dd⟩:=Pq I.hok e;have hz:vs.length<=ay:=by rw[<-rel.length];exact z
  have hl:(putK kvs k v).length<=ay:=by have:=xW kvs k v;omega
  refine wpAny_setItem_pairs (hsz:=hz) (BX ry) dd λh' dd' hs=>h _ ?_;have he:∃q,h'.get? a=some q:=let ⟨q,_,_,hq,_⟩:=dd';⟨q,hq⟩;exact EI I (by rw[e];exact True.intro) hs he (KL hl hd (rel.put k rv) dd')
 ·subst ey eH;cases (show u=Value.ref b from ry);obtain⟨z,hd,xs,rel,dd⟩:=Ux I.hok e;have hz:xs.length<=ay:=by rw[<-jh rel];exact z
  have hl:(putK kvs k v).length<=ay:=by have:=xW kvs k v;omega
  refine wpAny_setItem_heap (hsz:=hz) (iN hu) (EH I.hok eb) dd λh' dd' hs=>h _ ?_;obtain⟨q,es,ep,hq,h2,h3,h4,_,h5⟩:=dd';refine EI I (by rw[e];exact True.intro) hs ⟨q,hq⟩ ⟨hl,hd,_,(rel.put k eb rv).keeps λc ys ec=>?_,q,es,ep,hq,h2,h3,h4,h5⟩;rw[pM (TY ec e (λz=>nomatch z))];exact ec
end
section
variable{X:Cx}{pins:List (Addr×Obj)}{σ:St}{H:Hp}{s:ab}{a:Addr}{kvs:List (Key×V)}{k:Key}{u:aa}{A:av}{E:aa->ab->Prop}
theorem Uy(I:Inv X pins σ H s)(e:Rd H a (.dK kvs))(h:∀t s',Inv X pins σ H s'->Q (.int kvs.length t) s'):ag (model X.prog X.w) A (call (.builtin "len") [.ref a]) Q E s:=by obtain⟨z,hd,vs,rel,dd⟩:=BY I.hok e;refine call_len_dict hd dd (by rw[<-rel.length];rw[bK]at z;omega) ?_;rw[<-rel.length];exact h _ _ (I.tok _)
end
def QB(i:Expr):Prop:=∀ov iv,subscripted i false ov iv=operate [ov,iv] (getItem ov iv)
theorem NI{prog:ar}{w:aq}{A:av}{E:aa->ab->Prop}{s:ab}{env:Env}{value slice:Expr}{pos:Pos}{id:String}
  (hl:typeLookup (.type T) "__getitem__" = pure (some (.builtin id))) (hs:QB slice)
  (h:ag (model prog w) A (eval value env) (λo s₁=>ag (model prog w) A (eval slice env) (λi s₂=>s₂.TypeIs o T/\ag (model prog w) A (getItem o i) Q E s₂) E s₁) E s):
  ag (model prog w) A (eval (.Subscript value slice pos) env) Q E s:=by
 refine jF (bH h (λo s₁ h₁=>bH h₁ (λi s₂ h₂=>?_) λ_ _ x=>x) λ_ _ x=>x);obtain⟨hT,h₂⟩:=h₂;unfold subscriptTail;refine ae ?_;rw[getitemInPython_of_ne hT.not_modules];refine ae (eZ hT hl ?_);have fin:ag (model prog w) A (subscripted slice false o i) (λr s₃=>ag (model prog w) A (letTemporaryGo value o r>>=λ_=>pure r) Q E s₃) E s₂:=by rw[hs o i];exact wpAny_operating (bH h₂ (λr s₃ h₃=>ae (wpAny_letTemporaryGo (ai h₃))) λ_ _ x=>x)
 first
  |exact ai (ae fin)
  |exact ae (ai (ae fin))
  |exact ae fin
variable{X:Cx}{a:Addr}
theorem Fq{H:Hp}{s:ab}{o:Option V}(I:Inv X pins σ H s)(g:DGet H a y o):s.TypeIs (.ref a) "dict" := by
 rcases g with ⟨kvs,k,e,_,_⟩|⟨kvs,k,b,e,_,_,_⟩
 ·obtain⟨_,_,vs,_,dd⟩:=BY I.hok e;exact dd.typeIs
 ·obtain⟨_,_,xs,_,dd⟩:=Fp I.hok e;exact dd.typeIs
def Uz(td ty:TE):TE:=λσ H Q=>td σ H λx H1=>ty σ H1 λy H2=>∃a v,x=.ref a/\DGet H2 a y (some v)/\Q v H2
def Pr(td ty tv:TE):TS:=λD σ H=>tv σ H λv H1=>td σ H1 λx H2=>ty σ H2 λy H3=>∃a H4,x=.ref a/\KJ H3 a y v H4/\D.nx σ H4
section
variable{X:Cx}{o i e value:Expr}{pos pos' tpos:Pos}{td ty tv:TE}
theorem NJ(hu:X.A.units+1<cLine)(ho:PE X o td)(hi:PE X i ty)(hs:QB i):PE X (.Subscript o i pos) (Uz td ty):=by intro pins s σ H Q I h;refine NI F.slot_dict_getitem.lookup hs (thn (ho pins s σ H _ I h) λu s1 ⟨x,H1,I1,rx,q1⟩=>thn (hi pins s1 σ H1 _ I1 q1) λiv s2 zz=>?_);obtain⟨y,H2,I2,ry,a,v,ex,g,q2⟩:=zz;subst ex;obtain rfl:u=Value.ref a:=rx;exact⟨Fq I2 g,JB hu I2 g ry λw' s3 I3 rw'=>⟨v,H2,I3,rw',q2⟩⟩
theorem NK(hu:X.A.units+1<cLine)(ho:PE X o td)(hi:PE X i ty)(hv:PE X value tv)(hs:cy value (some (.Subscript o i pos')) pos.line X.env=pure false):
  PS X (.Assign [.Subscript o i pos'] value pos) (Pr td ty tv):=by
 intro pins s σ H D I h;refine wpAny_Assign_Subscript (thn (hv pins s σ H _ I h) λr s1 ⟨v,H1,I1,rv,q1⟩=>thn (ho pins s1 σ H1 _ I1 q1) λu s2 ⟨x,H2,I2,rx,q2⟩=>thn (hi pins s2 σ H2 _ I2 q2) λiv s3 zz=>?_) hs;obtain⟨y,H3,I3,ry,a,H4,ex,g,q3⟩:=zz;subst ex;obtain rfl:u=Value.ref a:=rx;exact JC hu I3 g ry rv λs4 I4=>⟨σ,H4,I4,q3⟩
end
theorem KM{P:ar}{w:aq}{H:Hp}(h:Heap)(hb:cw<h.objs.size):qL P w H (h.push { cls:=.type "dict", data:=.dict #[] }) h.objs.size (.dK []):=
 ⟨bR _,beq_eq_false_iff_ne.mpr (cQ (aI hb)),[],.nil,ph h⟩
def GU:TE:=λ_ H Q=>∀p,H p=none->Q (.ref p) (upd H p (.dK []))
section
variable{X:Cx}{pos:Pos}
theorem Fs:PE X (.Dict [] [] pos) GU:=λpins s σ H Q I h=>
 wpAny_Dict_empty ⟨.ref s.heap.objs.size,_,I.laid (a:=s.heap.objs.size) (o:=.dK []) (t':=s.toks) (λ_ _ q=>aA _ q) (aC _) (KM s.heap I.big),rfl,h _ (I.hok.fresh (aC _))⟩
end
structure M1(X:Cx)(o:Expr)(m:Str)(apos:Pos)(e:Expr)(cpos:Pos):Prop where
 base:df o m X.env (eval o X.env)=eval o X.env
 few:((ba cpos (aw [e] X.env)).all (λx=>!x.1)&&(backToKw cpos (cM [] X.env)).all (λx=>x.1.isSome)
  && decide (([e]:List Expr).length+([]:List dN).length+(if ([]:List dN).isEmpty then 0 else 1)<30))=true
 line:(apos.endLine==cpos.line)=true
 trees:ba cpos (aw [e] X.env)=[(false,eval e X.env)]
structure M2(X:Cx)(o:Expr)(m:Str)(apos:Pos)(e f:Expr)(cpos:Pos):Prop where
 base:df o m X.env (eval o X.env)=eval o X.env
 few:((ba cpos (aw [e,f] X.env)).all (λx=>!x.1)&&(backToKw cpos (cM [] X.env)).all (λx=>x.1.isSome)
  && decide (([e,f]:List Expr).length+([]:List dN).length+(if ([]:List dN).isEmpty then 0 else 1)<30))=true
 line:(apos.endLine==cpos.line)=true
 trees:ba cpos (aw [e,f] X.env)=[(false,eval e X.env),(false,eval f X.env)]
def IsD(H:Hp)(a:Addr):Prop:=(∃kvs,Rd H a (.dK kvs))\/∃kvs,Rd H a (.dT kvs)
theorem GV{H:Hp}{s:ab}(I:Inv X pins σ H s)(d:IsD H a):
  s.TypeIs (.ref a) "dict" /\ (∀b,Value.ref a=.ref b->∃ob,s.heap.get? b=some ob/\ob.dict=none)/\(a==cw)=false:=by
 rcases d with ⟨kvs,e⟩|⟨kvs,e⟩
 ·obtain⟨_,hd,vs,_,dd⟩:=BY I.hok e;refine⟨dd.typeIs,λb q=>?_,hd⟩;cases q;obtain⟨ob,_,_,h1,h2,_⟩:=dd;exact⟨ob,h1,h2.2.1⟩
 ·obtain⟨_,hd,xs,_,dd⟩:=Fp I.hok e;refine⟨dd.typeIs,λb q=>?_,hd⟩;cases q;obtain⟨ob,_,_,h1,h2,_⟩:=dd;exact⟨ob,h1,h2.2.1⟩
section
variable{X:Cx}{pins:List (Addr×Obj)}{σ:St}{H:Hp}{s:ab}{a:Addr}{y d:V}{u r:aa}{o:Option V}{A:av}{E:aa->ab->Prop}
theorem KN(hu:A.units+1<cLine)(I:Inv X pins σ H s)(g:DGet H a y o)(ry:RelV y u)(h:∀w' s',Inv X pins σ H s'->RelV (o.getD .non) w'->Q w' s'):
  ag (model X.prog X.w) A (call (.builtin "dict.get") [.ref a,u]) Q E s:=by
 rcases g with ⟨kvs,k,e,ey,l⟩|⟨kvs,k,b,e,ey,eb,l⟩
 ·subst ey;obtain⟨z,hd,vs,rel,dd⟩:=BY I.hok e;refine hZ fT dd.typeIs i3 (iQ _ _) (mf (pZ X.prog X.w) a (BX ry) hd) ⟨_,dd.mapOf,h _ _ (I.tok _) ?_⟩;rw[l];exact(rel.val k).getD rfl
 ·subst ey;cases (show u=Value.ref b from ry);obtain⟨z,hd,xs,rel,dd⟩:=Fp I.hok e;refine hZ fT dd.typeIs i3 (iQ _ _) (meetsH_dict_get (tupleKind (pZ X.prog X.w)) a b hd) ⟨iN hu,k,xs,EH I.hok eb,dd,h _ _ (I.tok _) ?_⟩;rw[l];exact(rel.val k).getD rfl
end
def QC(td ty:TE):TE:=λσ H Q=>td σ H λx H1=>∃a,x=.ref a/\IsD H1 a/\ty σ H1 λy H2=>∃o,DGet H2 a y o/\Q (o.getD .non) H2
section
variable{X:Cx}{o e f:Expr}{apos cpos:Pos}{td ty tx:TE}
theorem KO(hu:X.A.units+1<cLine)(ho:PE X o td)(he:PE X e ty)(m:M1 X o "get" apos e cpos):PE X (.Call (.Attribute o "get" apos) [e] [] cpos) (QC td ty):=by intro pins s σ H Q I h;refine iR m.base m.few m.line iU fT lS (thn (ho pins s σ H _ I h) λu s1 zz=>?_);obtain⟨x,H1,I1,rx,a,ex,d,q1⟩:=zz;subst ex;obtain rfl:u=Value.ref a:=rx;obtain⟨t1,t2,_⟩:=GV I1 d;refine⟨t1,t2,?_⟩;rw[m.trees];refine fG rfl (gQ (dU (thn (he pins s1 σ H1 _ I1 q1) λiv s2 ⟨y,H2,I2,ry,ov,g,q2⟩=>eQ ?_)));exact KN hu I2 g ry λw' s3 I3 rw'=>⟨_,H2,I3,rw',q2⟩
end
end L2
namespace Att
open PySem PySem.W PySem.Calls PyProof.Rows
theorem Bv{P:gm}{h:Heap}:∀(ns:List Int) (vs:List aa),WellAll P h vs (ns.map WData.int)->gk vs ns:=by
 intro ns
 induction ns with
 |nil=>intro vs w;rw[eA]at w;cases w;exact .nil
 |cons n ns ih=>
  intro vs w;rw[aG]at w;cases w with
  |cons a b=>cases a;exact .cons _ _ (ih _ b)
variable{l:gh}
theorem JD{n:Nat}(hn:l.most=some n){P:gm}{h:Heap}{args:List WData}{vals:List aa}
  (hpre:l.row.toRowW.claim.pre args=true) (hwl:WellAll P h vals args):
  ∃a vs ns,vals=[Value.ref a]/\args=[WData.list (ns.map WData.int)]/\h.get? a=some { cls:=.type "list", data:=.seq vs.toArray }/\gk vs ns/\ns.length<=n:=by
 have hsh:WShape.hasAll [] args [.list .int]=true:=(pre_splitW hpre).1;have hc:l.pre.holds [] { args:=args }=true:=(pre_splitW hpre).2;obtain⟨d,r,rfl,h1,h2⟩:=hasAllW_cons hsh;obtain rfl:=hasAllW_nil h2;obtain⟨xs,rfl,h3⟩:=hasW_list h1;obtain⟨ns,rfl⟩:=items_int h3;have hlen:ns.length<=n:=by
  unfold OpenLaw.pre at hc;have h4:(WTm.not (.lt (.lit (.int (n:Int))) (.len (.arg 0)))).holds [] { args:=[.list (ns.map .int)] }=true:=by have h4:=(holds_andW hc).1;rw[hn]at h4;exact h4
  have h5:=condW_of h4 (w_not (w_lt w_lit (w_len_list (w_arg rfl))));rw[af]at h5;refine lC λq=>?_;have q':(n:Int)<((ns.length:Nat):Int):=by omega
  first
   |(rw[aR q']at h5;exact ao h5 (by decide))
   |(simp at h5;omega)
 cases hwl with
 |cons w1 w2=>
  cases w2;cases w1 with
  |list ho hall=>exact⟨_,_,ns,rfl,rfl,ho,Bv ns _ hall,hlen⟩
theorem JE(l:gh)(args:List WData):l.row.toRowW.claim.post args (.bool true) args=true:=
 postW_of (r:=l.row.toRowW) (X:=(true==true))
  (show m8 [] (.bool true) .bool=true by first|rfl|decide|simp[m8,WShape.arms,WShape.armsAll])
  (show (WTm.eq .res (.lit (.bool true))).value [] { args:=args,res:=some (.bool true),after:=args }=some (.bool (true==true)) from w_eq_bool (w_res rfl) w_lit) rfl
theorem attach_call{n:Nat}{q:ar}{loose:List Str}{XP:(Str->Option aa)->Heap->Prop}{YP:aq->Heap->Prop}{d:DefRec}
  (hn:l.most=some n) (hdf:d.params.defaults=[])
  (call:∀(w:aq) (s₀ s₁:ab) (mg mb:Str->Option aa) (fa:Addr) (o:Obj) (pm cd doc:aa) (a:Addr) (vs:List aa) (ns:List Int),
   Ground q loose [] XP w s₀ mg mb s₁.heap->YP w s₁.heap->
   s₁.heap.get? fa=some o->o.data=.func (docDef d.name d.params d.body d.scope pm cd doc)->s₁.heap.CodeRec cd d.name->mg d.name=some (.ref fa)->
   s₁.heap.get? a=some { cls:=.type "list", data:=.seq vs.toArray }->gk vs ns->ns.length<=n->s₁.gens=#[]->
   bI (model l.prog w) callerA (.call (.ref fa) ⟨[.ref a],[]⟩) (λr s'=>r=.ok (.ret (.bool true))/\OldK s₁.heap s'.heap/\s'.os=s₁.os/\di s'.gens) s₁):
  WalkO q loose XP YP l.row.toRowW d [] (λf vs=>jI f vs):=by
 intro w s₀ s₁ mg mb G Y fa o pm cd doc dV kV ho hd hcd hD hmg hg args vals as hpre hlay hrd hwl hlo;obtain rfl:dV=.none:=Dflts.none hD hdf;obtain rfl:kV=.none:=Dflts.noKw hD;obtain⟨a,vs,ns,rfl,rfl,hobj,hints,hlen⟩:=JD hn hpre hwl;refine enter_call (fq (call w s₀ s₁ mg mb fa o pm cd doc a vs ns G Y ho (fd_plain hd) hcd hmg hobj hints hlen hg) λr s' hq=>?_);obtain⟨rfl,h2,h3,h4⟩:=hq;exact⟨.inl ⟨.bool true,.bool true,[],rfl,λ_=>rfl,.bool true,JE l _,λ_=>⟨List.Pairwise.nil,λ_ hm=>(nomatch hm)⟩⟩,h2,h3,h4⟩
end Att
namespace L2
open PySem PySem.Spec PyProof.Rows
theorem DM:∀{vs:List aa} {ns:List Int},gk vs ns->Vals (ns.map V.int) vs
 |_,_,.nil=>.nil
 |_,_,.cons n t h=>.cons ⟨t,rfl⟩ (DM h)
def QD(H:Hp):Prop:=∀b,H b=none\/∃o xs,H b=some (.frz o (.lst xs))
variable{a:Addr}{fd:bB}{x:Str}{sp:Sp}
theorem KP{P:ar}{w:aq}{K:ak}{mg mb:Str->Option aa}{CX:CXT}{k:Nat}{fa:Addr}{s₁:ab}{vs:List aa}{ns:List Int}
  (KX:K.In s₁.heap) (hns:s₁.heap.Ns aK mg) (hb:s₁.heap.Ns builtinsNs mb) (hbb:∀x:Str,x≠"__name__" -> mb x=cJ x) (hlim:s₁.heap.NoLimit) (hg:s₁.gens=#[])
  (ha:s₁.heap.get? a=some { cls:=.type "list", data:=.seq vs.toArray }) (hi:gk vs ns) (hl:ns.length<=ay) (hr:rG k callerA)
  (F:∀base:Heap,K.In base->base.Ns aK mg->uw P w K mg base CX k fa fd [x] sp) (hbind:∀(s:ab) (u:aa),fE s fd ⟨[u],[]⟩ [(x,u)])
  (hsp:∀H:Hp,QD H->SqL K H a (ns.map V.int)->sp [.ref a] H (λv _=>v=.bl true) λ_ _ _=>False)
  (hCX:∀H e s',CX [] H s₁ (λ_ _ _=>False) e s'->False):
  bI (model P w) callerA (.call (.ref fa) ⟨[.ref a],[]⟩) (λr s'=>r=.ok (.ret (.bool true))/\OldK s₁.heap s'.heap/\s'.os=s₁.os/\di s'.gens) s₁:=by
 have rv:=DM hi;have lenV:=hi.length;have core:∀H:Hp,QD H->SqL K H a (ns.map V.int)->HOk P w H s₁.heap->(∀b,H b≠none->b=a)->(H a≠none->K.lookup a=none)->
   bI (model P w) callerA (.call (.ref fa) ⟨[.ref a],[]⟩) (λr s'=>r=.ok (.ret (.bool true))/\OldK s₁.heap s'.heap/\s'.os=s₁.os/\di s'.gens) s₁:=by
  intro H hO hS hok hA hK;have base_of:∀{b:Addr} {o:Obj},s₁.heap.get? b=some o->H b=none->(Es s₁.heap H).get? b=some o:=λe n=>Kl e n;have noA:∀{b:Addr} {o:Obj} {es:Array DictEntry} {ep:Nat},s₁.heap.get? b=some o->o.data=.dict es ep->H b=none:=λ{b o es ep} e d=>by
   cases q:H b with
   |none=>rfl
   |some u=>have e':b=a:=hA b (by rw[q];simp);subst e';rw[ha]at e;cases e;have d':Data.seq vs.toArray _=Data.dict es ep:=d;cases d'
  have nsK:∀{b:Addr} {m:Str->Option aa},s₁.heap.Ns b m->(Es s₁.heap H).Ns b m:=λ{b m} ⟨o,es,ep,e,d,r⟩=>⟨o,es,ep,base_of e (noA e d),d,r⟩;have hKb:K.In (Es s₁.heap H):=λb o e=>base_of (KX b o e) (by
   cases q:H b with
   |none=>rfl
   |some u=>
    have e':b=a:=hA b (by rw[q];simp);subst e';rw[hK (by rw[q];simp)]at e;cases e)
  have hM:Mod K mg (Es s₁.heap H):=⟨hKb,nsK hns,⟨mb,nsK hb,hbb⟩,let ⟨mc,h1,h2⟩:=hlim;⟨mc,nsK h1,h2⟩⟩;have e0:GP P w K mg (Es s₁.heap H) callerA [] s₁ H:=⟨rfl,hM,λb o e=>Ng e,mJ (Jo _ _),trivial,λb hb=>ao (show b∈([]:List Addr) from hb) (by simp),hok,.of_eq hg⟩;refine fq ((F _ hKb (nsK hns)).run callerA [] s₁ H ⟨[.ref a],[]⟩ [.ref a] [.ref a] _ _ hr e0 (hbind s₁ (.ref a)) (.cons rfl .nil) (hsp H hO hS)) λr s' h=>?_;cases r with
  |error e=>exact(hCX H e s' h).elim
  |ok fl=>
   cases fl with
   |next=>exact b0 h
   |brk=>exact b0 h
   |cont=>exact b0 h
   |ret u=>
    obtain⟨v,H',os,bare,un,hok',r',q⟩:=h;have q':v=.bl true:=q;subst q';obtain rfl:u=Value.bool true:=r';refine⟨rfl,OldK.of_keep λb o e=>?_,os,bare⟩;cases q:H b with
    |none=>exact un.keep b o e q (by intro z;exact ao (show b∈([]:List Addr) from z) (by simp)) (by simp)
    |some u=>
     rcases hO b with z|⟨ob,xs,z⟩
     ·rw[q]at z;cases z
     ·have z2:=un.frzs b ob _ z;obtain⟨e1,_⟩:=hok b _ z;obtain⟨e2,_⟩:=hok' b _ z2;rw[e]at e1;cases e1;exact e2
 cases hk:K.lookup a with
 |some o=>have e:=KX a o hk;rw[ha]at e;cases e;refine core (λ_=>none) (λ_=>.inl rfl) (.inr ⟨_,vs.toArray,_,hk,rfl,rfl,rfl,by rw[aM,lenV];exact hl,by simpa using rv⟩) (λb u z=>by have z':(none:Option HO)=some u:=z;cases z') (λb z=>ao rfl z) λz=>ao rfl z
 |none=>
  refine core (λb=>if b=a then some (.frz { cls:=.type "list", data:=.seq vs.toArray } (.lst (ns.map V.int)))else none) (λb=>?_) (.inl (.inr ⟨{ cls:=.type "list", data:=.seq vs.toArray },ah rfl⟩)) (λb u z=>?_) (λb z=>?_) λ_=>hk
  ·by_cases hb:b=a
   ·exact .inr ⟨_,_,ah hb⟩
   ·exact .inl (aj hb)
  ·by_cases hb:b=a
   ·have z':=(ah hb).symm.trans z;cases z';subst hb;exact⟨ha,by rw[af];exact hl,vs,_,rv,ha⟩
   ·have z':=(aj hb).symm.trans z;cases z'
  ·by_cases hb:b=a
   ·exact hb
   ·exact ao (aj hb) z
theorem NM{l:gh}{n k:Nat}{q:ar}{loose:List Str}{XP:(Str->Option aa)->Heap->Prop}{YP:aq->Heap->Prop}{d:DefRec}{K:gm->ak}{CX:aq->CXT}{sp:aq->Sp}
  (hn:l.most=some n) (hn2:n<=ay) (hdf:d.params.defaults=[]) (hr:rG k callerA)
  (hY:∀(w:aq) (h:Heap),YP w h->(K w.params).In h)
  (F:∀(w:aq) (mg:Str->Option aa) (fa:Addr) (h:Heap),(K w.params).In h->h.Ns aK mg->mg d.name=some (.ref fa)->
   ∃fd:bB,(∀(s:ab) (u:aa),fE s fd ⟨[u],[]⟩ [(x,u)])/\
    ∀base:Heap,(K w.params).In base->base.Ns aK mg->uw l.prog w (K w.params) mg base (CX w) k fa fd [x] (sp w))
  (hsp:∀(w:aq) (H:Hp) (a:Addr) (ns:List Int),ns.length<=n->QD H->SqL (K w.params) H a (ns.map V.int)->sp w [.ref a] H (λv _=>v=.bl true) λ_ _ _=>False)
  (hCX:∀(w:aq) (H:Hp) (s:ab) (e:aa) (s':ab),CX w [] H s (λ_ _ _=>False) e s'->False):
  W.WalkO q loose XP YP l.row.toRowW d [] (λf vs=>jI f vs):=by
 refine Att.attach_call hn hdf λw s₀ s₁ mg mb fa o pm cd doc a vs ns G Y ho hd hcd hmg hobj hints hlen hg=>?_;have KX:=hY w _ Y;obtain⟨fd,hb,hF⟩:=F w mg fa _ KX G.T.g hmg;exact KP KX G.T.g G.T.b G.T.builtins G.T.nolimit hg hobj hints (bc hlen hn2) hr hF hb (λH hO hS=>hsp w H a ns hlen hO hS) λH e s'=>hCX w H s₁ e s'
def inClass(s:Stmt)(j:Nat):Stmt:=match s with
 |.ClassDef _ _ _ body _ _ _ _ _ _ _=>body.getD j (.Pass ⟨0,0,0,0⟩)
 |_=>.Pass ⟨0,0,0,0⟩
def tI(s:Stmt):Arguments:=match s with
 |.FunctionDef _ a _ _ _ _ _ _ _ _=>a
 |_=>{ posonlyargs:=[],args:=[],vararg:=none,kwonlyargs:=[],kw_defaults:=[],kwarg:=none,defaults:=[] }
def qo(s:Stmt):List Stmt:=match s with
 |.FunctionDef _ _ b _ _ _ _ _ _ _=>b
 |_=>[]
def pP(s:Stmt):b8:=match s with
 |.FunctionDef _ _ _ _ _ _ sc _ _ _=>sc
 |_=>{ kind:=.function,names:=[],isGenerator:=false,isCoroutine:=false }
abbrev CX0:CXT:=λ_ _ _ _ _ _=>False
abbrev E0:XK:=λ_ _ _=>False
theorem BZ{X:Cx}:Passes CX0 X E0:=λ_ _ _ _ _ _ _ h=>h.elim
structure Fun(K:ak)(x qual:Str)(st:Stmt)(f:Addr)(fd:bB):Prop where
 ex:∃(oc:aa) (od:Option Addr) (kV doc pm:aa) (an:Option Addr) (cdv ct:aa) (osl:Array (Option aa)),
  fd=dq x qual (tI st) (qo st) (pP st) .none kV doc pm an cdv ct/\K.lookup f=some ⟨oc,od,.func fd,osl⟩/\fD K cdv qual=true
 kp:cO K (.ref f)=true
variable{qual:Str}{st:Stmt}{ps:List Str}
section
variable{P:ar}{w:aq}{K:ak}{mg:Str->Option aa}{base:Heap}
theorem Fun.ok{f:Addr}{N:List Str}{k:Nat}(F:Fun K x qual st f fd)(S:rR N ps (pP st))(len:∀vs H Q E,sp vs H Q E->vs.length=ps.length)
  (hbody:∀(cdv:aa) (A:av) (outer:List Env) (s:ab) (H:Hp) (vs:List V) (Q:VK) (E:XK),rG k (A.deeper (envOfC qual (pP st) s.heap.objs.size f cdv))->sp vs H Q E->
   ∃t,PSs (Fk CX0 P w K mg base N qual (pP st) f cdv A outer s H E).nox (qo st) t/\t { nx:=λ_ H'=>Q .non H',rt:=Q } (start N vs) H):uw P w K mg base CX0 (k+1) f fd ps sp:=by
 obtain⟨oc,od,kV,doc,pm,an,cdv,ct,osl,rfl,lk,hcd⟩:=F.ex;refine Pm lk hcd S len λA outer s H vs Q E hr hsp=>?_;obtain⟨t,h,q⟩:=hbody cdv A outer s H vs Q E hr hsp;exact⟨t,h.nox,q⟩
theorem Fun.binds{f:Addr}(F:Fun K x qual st f fd)
  (h:∀(kV doc pm:aa) (an:Option Addr) (cdv ct:aa) (us:List aa),us.length=ps.length->bindArgs (dq x qual (tI st) (qo st) (pP st) .none kV doc pm an cdv ct) ⟨us,[]⟩=pure (ps.zip us)):Binds K fd ps []:=by
 obtain⟨oc,od,kV,doc,pm,an,cdv,ct,osl,rfl,lk,hcd⟩:=F.ex;exact .all (h kV doc pm an cdv ct)
end
theorem Ik{A:av}{k:Nat}(hr:rG k A):A.units+1<cLine:=gV (Nat.add_le_add_left (by decide:1<=64) _) hr.units
theorem yI{n:Nat}(h:n<=1000):n<ay:=gV h (by decide)
section
variable{X:Cx}
theorem pv(i:Nat){pos:Pos}(hN:X.N[i]?=some x:=by rfl)(hv:Vis X.env.scope x:=by first|exact Or.inl rfl|exact Or.inr (Or.inl rfl)|exact Or.inr (Or.inr rfl))(hd:(x==("__debug__" : Str))=false:=by decide)
  (hcd:(x==("__classdict__" : Str))=false:=by decide):PE X (.Name x pos) (wy i):=PZ hN hv hd hcd
end
variable{B:Prop}
theorem Ft{A:Prop}(h:B):if false=true then A else B:=by rw[aj aT];exact h
theorem Fu{A:Prop}(h:A):if true=true then A else B:=by rw[ah rfl];exact h
def pL(H H':Hp):Prop:=∀b o,H b=some o->H' b=some o
theorem pL.refl(H:Hp):pL H H:=λ_ _ h=>h
theorem pL.trans{H H1 H2:Hp}(a:pL H H1)(b:pL H1 H2):pL H H2:=λc o h=>b c o (a c o h)
theorem pL.seq{K:ak}{H H':Hp}{xs:List V}(e:pL H H')(h:SqL K H a xs):SqL K H' a xs:=by
 rcases h with (h|⟨o,h⟩)|h
 ·exact .inl (.inl (e _ _ h))
 ·exact .inl (.inr ⟨o,e _ _ h⟩)
 ·exact .inr h
end L2
set_option maxHeartbeats 4000000
namespace L3
open PySem PySem.Spec PyProof.Rows L2
abbrev St:=L2.St
theorem B2{α β:Type}{f:α->β->Sem (ForInStep β)}{g:β->α->β}:∀(l:List α) (b:β),(∀x∈l,∀c,f x c=pure (ForInStep.yield (g c x)))->(forIn l b f:Sem β)=pure (l.foldl g b)
 |[],b,_=>by simp
 |x::r,b,h=>by rw[List.forIn_cons,h x aP b];show (forIn r (g b x) f:Sem β)=_;rw[B2 r (g b x) λy hy c=>h y (aO _ hy) c];rfl
def xI(cells:List (Str×Addr))(cs:List (Str×Addr))(x:Str×cP):List (Str×Addr):=if (x.2==NameKind.free)=true then (x.1,(cells.lookup x.1).getD 0)::cs else cs
def ux(cells:List (Str×Addr))(names:List (Str×cP)):List (Str×Addr):=names.foldl (xI cells) []
variable{scope:b8}{env:Env}
theorem Dn(h:∀x∈scope.names,x.2=.free->∃c,env.cells.lookup x.1=some c):
  closureFor scope env=pure (ux env.cells scope.names):=by
 simp only[closureFor];rw[B2 (g:=xI env.cells) scope.names [] λx hx c=>by
  obtain⟨n,k⟩:=x;by_cases hk:k=.free
  ·subst hk;obtain⟨a,e⟩:=h _ hx rfl;have e':env.cells.lookup n=some a:=e;simp only[xI,cellOf,e',beq_self_eq_true,if_true,lD];rfl
  ·have hb:(k==NameKind.free)=false:=by simpa using hk
   simp only[xI,hb,eO,if_false]]
 rfl
theorem Fv{cells:List (Str×Addr)}:∀(names:List (Str×cP)) (acc:List (Str×Addr)),(∀x∈names,x.2=.free->∃c,cells.lookup x.1=some c)->(∀x c,acc.lookup x=some c->cells.lookup x=some c)->
  ∀x c,(names.foldl (xI cells) acc).lookup x=some c->cells.lookup x=some c
 |[],acc,_,ha,x,c,e=>ha x c e
 |y::r,acc,h,ha,x,c,e=>by
  refine Fv r (xI cells acc y) (λz hz=>h z (aO _ hz)) (λz d ez=>?_) x c e;obtain⟨n,k⟩:=y;unfold xI at ez;split at ez
  ·rename_i hk;obtain⟨a,ea⟩:=h (n,k) aP (by simpa using hk);have ea':cells.lookup n=some a:=ea;rw[dy]at ez;cases hb:z==n with
   |true=>rw[hb]at ez;have ez':some ((cells.lookup n).getD 0)=some d:=ez;rw[ea']at ez';rw[eD hb,ea'];exact ez'
   |false=>rw[hb]at ez;exact ha z d ez
  ·exact ha z d ez
theorem DN{cells:List (Str×Addr)}:∀(names:List (Str×cP)) (acc:List (Str×Addr)) (x:Str),(∃c,acc.lookup x=some c)->∃c,(names.foldl (xI cells) acc).lookup x=some c
 |[],_,_,h=>h
 |y::r,acc,x,h=>by
  refine DN r (xI cells acc y) x ?_;unfold xI;split
  ·rw[dy];cases x==y.1 with
   |true=>exact⟨_,rfl⟩
   |false=>exact h
  ·exact h
theorem B3{cells:List (Str×Addr)}:∀(names:List (Str×cP)) (acc:List (Str×Addr)) (x:Str),(x,NameKind.free)∈names->∃c,(names.foldl (xI cells) acc).lookup x=some c
 |[],_,_,h=>by cases h
 |y::r,acc,x,h=>by
  rcases aH.mp h with e|h
  ·subst e;refine DN r _ x ?_;unfold xI;rw[ah (by simp),dy];simp
  ·exact B3 r _ x h
theorem wU{env:Env}(x:Str):∀(names:List (Str×cP)),
  (names.map λ(n,k)=>if (k==NameKind.free&&env.scope.kind==.function&&env.kindOf n==some .cell)then (n,NameKind.cell)else (n,k)).lookup x=
   (names.lookup x).map λk=>if (k==NameKind.free&&env.scope.kind==.function&&env.kindOf x==some .cell)=true then NameKind.cell else k
 |[]=>rfl
 |(n,k)::r=>by
  have ih:=wU (env:=env) x r;rw[aG,dy (k:=n)];show cv x ((if (k==NameKind.free&&env.scope.kind==.function&&env.kindOf n==some .cell)=true then (n,NameKind.cell)else (n,k))::_)=_;cases hx:x==n with
  |true=>
   have e:=eD hx;subst e;split
   ·rename_i hc;simp only[dy,hx,dY,hc,if_true]
   ·rename_i hc;simp only[dy,hx,dY];rw[aj hc]
  |false=>
   rw[<-ih];split
   ·simp only[dy,hx]
   ·simp only[dy,hx]
variable{x:Str}
theorem GW(hcell:∀y∈scope.names,y.2≠.cell)(h:(relabel scope env).names.lookup x=some .cell\/(relabel scope env).names.lookup x=some .free):(x,NameKind.free)∈scope.names:=by
 have e:=wU (env:=env) x scope.names;have h':(scope.names.lookup x).map (λk=>if (k==NameKind.free&&env.scope.kind==.function&&env.kindOf x==some .cell)=true then NameKind.cell else k)=some .cell\/
   (scope.names.lookup x).map (λk=>if (k==NameKind.free&&env.scope.kind==.function&&env.kindOf x==some .cell)=true then NameKind.cell else k)=some .free:=by
  rw[<-e];exact h
 cases q:scope.names.lookup x with
 |none=>rw[q]at h';rcases h' with z|z<;>cases z
 |some k=>
  rw[q]at h';have hm:=mem_of_lookup q;have hc:=hcell _ hm;cases k with
  |free=>exact hm
  |cell=>exact ao rfl hc
  |_=>rcases h' with z|z<;>cases z
theorem Do(h:scope.names.lookup x=some .free):(relabel scope env).names.lookup x=some .cell\/(relabel scope env).names.lookup x=some .free:=by
 have e:=wU (env:=env) x scope.names;have e':(relabel scope env).names.lookup x=(scope.names.lookup x).map λk=>if (k==NameKind.free&&env.scope.kind==.function&&env.kindOf x==some .cell)=true then NameKind.cell else k:=e
 rw[e',h,dY];split
 ·exact .inl rfl
 ·exact .inr rfl
def ra(X:Cx)(N':List Str)(scope:b8)(cl:List (Str×Addr))(C:Addr)(fp:List Addr)(s:ab)(H:Hp):Cx:=
 { X with N:=N',s₀:=s,H₀:=H,env:=compEnvC scope cl C X.env,outer:=X.stack,ex:=fp,fn:=λ_=>false,pn:=[],xe:=λ_ _=>False }
def PIf(X:Cx)(ifs:List Expr)(t:TT):Prop:=
 ∀(pins:List (Addr×Obj)) (s:ab) (σ:St) (H:Hp) (Q:Bool->Hp->Prop),Inv X pins σ H s->t σ H Q->
  ag (model X.prog X.w) X.A (forIn ifs true λc r=>if r=true then do let ok<-isTrue c X.env (eval c X.env);pure (ForInStep.yield ok)else pure (ForInStep.yield r)) (TP X pins σ Q) X.xe s
def VP:TT:=λ_ H Q=>Q true H
variable{X:Cx}
theorem NN:PIf X [] VP:=λ_ _ _ H _ I h=>wpAny_tests_nil ⟨H,I,h⟩
theorem NO{c:Expr}{t:TT}(h:PT X c t):PIf X [c] t:=λpins s σ H Q I hq=>wpAny_tests_one (h pins s σ H Q I hq)
variable{elt iter:Expr}{ifs:List Expr}{pos:Pos}
section
variable{prog:ar}{w:aq}{A:av}{R:cR->ab->Prop}{s:ab}
theorem EJ{target:Expr}{it acc:aa}(J:Nat->ab->Prop)
  (turn:∀n s,J n s->ag (model prog w) A (pyNext it) (λr s₁=>match r with
   |none=>R (.ok .next) s₁
   |some v=>ag (model prog w) A (eX target it v) (λ_ s₁'=>ag (model prog w) A (assign target env v) (λ_ s₂=>
     ag (model prog w) A (forIn ifs true λc r=>if r=true then do let ok<-isTrue c env (eval c env);pure (ForInStep.yield ok)else pure (ForInStep.yield r)) (λok s₃=>
      if ok=true then ag (model prog w) A (eval elt env) (λx s₄=>
       ag (model prog w) A (call (.builtin "list.append") [acc,x]) (λ_ s₅=>∃m,m<n/\J m s₅) (notedBy (model prog w) A env λe s'=>R (.error e) s') s₄) (notedBy (model prog w) A env λe s'=>R (.error e) s') s₃
      else ∃m,m<n/\J m s₃) (notedBy (model prog w) A env λe s'=>R (.error e) s') s₂) (notedBy (model prog w) A env λe s'=>R (.error e) s') s₁')
      (notedBy (model prog w) A env λe s'=>R (.error e) s') s₁) (notedBy (model prog w) A env λe s'=>R (.error e) s') s)
  (n:Nat) (h:J n s):
  bI (model prog w) A (.compLoop (.ListComp elt [⟨target,iter,ifs,0⟩] scope pos) 0 it acc env) R s:=by
 refine codeAny_loop rfl J (λn s hI=>?_) n h;show ag _ A ((compTurn (.ListComp elt [⟨target,iter,ifs,0⟩] scope pos) 0 it acc env).onRaise (λx=>do noteFrame x env;theTreesLotGoes x)) _ _ s;refine wpAny_noted ?_;rw[compTurn_list];refine ae (hJ (ae (bH (turn n s hI) (λr s₁ h₁=>?_) λ_ _ h'=>h')));cases r with
 |none=>exact ai h₁
 |some v=>
  refine ae (bH h₁ (λ_ s₁' h₁'=>?_) λ_ _ h'=>h');refine ae (bH h₁' (λ_ s₂ h₂=>ae (bH h₂ (λok s₃ h₃=>?_) λ_ _ h'=>h')) λ_ _ h'=>h');cases ok with
  |false=>exact ai ⟨rfl,h₃⟩
  |true=>exact ae (ae (bH h₃ (λx s₄ h₄=>ae (bH h₄ (λ_ s₅ h₅=>ai (ai ⟨rfl,h₅⟩)) λ_ _ h'=>h')) λ_ _ h'=>h'))
end
def tJ(k:Nat)(cap:List Nat)(σ:St):St:=br k none++cap.map λj=>(σ[j]?).join
variable{σ:St}{i:Nat}
theorem DO{k:Nat}{cap:List Nat}{v:V}(h:(tJ k cap σ)[i]?=some (some v)):k<=i:=by
 by_cases hi:k<=i
 ·exact hi
 ·unfold tJ at h;rw[dR (by rw[bV];omega),gy]at h;split at h<;>cases h
variable{N N':List Str}
theorem JF{k:Nat}{cap:List Nat}{v:V}(hcap:(N'.drop k).map some=cap.map λj=>N[j]?)(hx:N'[i]?=some x)(h:(tJ k cap σ)[i]?=some (some v)):
  ∃j:Nat,N[j]?=some x/\σ[j]?=some (some v)/\x∈N'.drop k:=by
 have hi:=DO h;unfold tJ at h;rw[dQ (by rw[bV];exact hi),bV,bb]at h;have hd:(N'.drop k)[i - k]?=some x:=by rw[dt,show k+(i - k)=i by omega];exact hx
 have e:=bj (λl=>l[i - k]?) hcap;simp only[bb,hd,dY]at e;cases q:cap[i - k]? with
 |none=>rw[q]at h;cases h
 |some j=>
  rw[q]at h e;simp only[dY,o8]at h e;refine⟨j,e.symm,?_,bF hd⟩;cases z:σ[j]? with
  |none=>rw[z]at h;cases h
  |some o=>rw[z]at h;have h':o=some v:=h;rw[h']
def AY(wi:TI)(g:TG)(tt:TT)(te:TE)(k:Nat)(cap:List Nat):TE:=λσ H Q=>wi σ H λJ H1=>∀p,H1 p=none->
 ∃W:Nat->Nat->List V->Hp->Prop,(∃m,W 0 m [] (upd H1 p (.lst [])))/\∀i m acc H2,W i m acc H2->
  (J.stop i H2/\Q (.ref p) H2)\/
   (J.go i H2/\∀x H3,J.yld i H2 x H3->g x (tJ k cap σ) H3 λσ4 H4=>σ4.drop k=(tJ k cap σ).drop k/\tt σ4 H4 λb H5=>
    if b=true then te σ4 H5 λy H6=>∃acc',H6 p=some (.lst acc')/\acc'.length<ay/\∃m',m'<m/\W (i+1) m' (acc'++[y]) (upd H6 p (.lst (acc'++[y])))
    else ∃m',m'<m/\W (i+1) m' acc H5)
variable{tg:Expr}{wi:TI}{tt:TT}{te:TE}
theorem DP{pins:List (Addr×Obj)}{s:ab}{H:Hp}{use:Option (aa->Sem Unit)}{P:aa->ab->Prop}{Q:V->Hp->Prop}{k:Nat}{cap:List Nat}{g:TG}
  (hc:X.calm=true) (hi:PI X tg iter wi)
  (body:∀(cl:List (Str×Addr)) (C:Addr) (fp:List Addr) (s:ab) (H:Hp),PG (ra X N' scope cl C fp s H) tg g/\PIf (ra X N' scope cl C fp s H) ifs tt/\PE (ra X N' scope cl C fp s H) elt te)
  (hkind:scope.kind=.function) (hcell:(scope.names.all λy=>y.2 != .cell)=true)
  (hloc:(scope.names.all λy=>y.2 != .local||scope.names.lookup y.1==some .local)=true)
  (hfree:(scope.names.all λy=>y.2 != .free||(X.env.kindOf y.1==some .cell||X.env.kindOf y.1==some .free))=true)
  (hlen:N'.length=k+cap.length) (hcap:(N'.drop k).map some=cap.map λj=>X.N[j]?)
  (hcf:((N'.drop k).all λx=>scope.names.lookup x==some .free)=true)
  (hs:∀x,fM iter X.env x=pure x)
  (I:Inv X pins σ H s) (h:AY wi g tt te k cap σ H Q)
  (fin:∀a C m u s4 H3,s4.heap.Ns C m->Inv X pins σ H3 s4->Ew X pins H3 C->Q (.ref a) H3->compPost (model X.prog X.w) X.A X.xe use P (.ref a) C (.ok u) s4):
  ag (model X.prog X.w) X.A (comprehension (.ListComp elt [⟨tg,iter,ifs,0⟩] scope pos) scope X.env (firstIterPos [⟨tg,iter,ifs,0⟩] pos) (newList []) false (eval iter X.env) use) P X.xe s:=by
 have hcell':∀y∈scope.names,y.2≠.cell:=λy hy e=>by have z:=aE.mp hcell y hy;rw[e]at z;exact ao z (by decide)
 have hloc':∀y∈scope.names,y.2=.local->scope.names.lookup y.1=some .local:=λy hy e=>by have z:=aE.mp hloc y hy;rw[e]at z;simpa using z
 have hfree':∀y∈scope.names,y.2=.free->X.env.kindOf y.1=some .cell\/X.env.kindOf y.1=some .free:=λy hy e=>by have z:=aE.mp hfree y hy;rw[e]at z;simpa using z
 have hcl:∀y∈scope.names,y.2=.free->∃c,X.env.cells.lookup y.1=some c:=λy hy e=>I.ok.has y.1 (hfree' y hy e);refine wpAny_comprehension_free rfl hs (Dn hcl) hkind hloc' (thn (hi pins s σ H _ I h) λxv s₁ h₁=>thn h₁ λit s₂ h₂=>?_);obtain⟨ita,fp,tn,J,H2,e,I2,T,st2,f2,R2⟩:=h₂;subst e;obtain⟨W,⟨m0,w0⟩,turn⟩:=R2 s₂.heap.objs.size (I2.hok.fresh (aC _));refine cB (wpAny_newFunctionEnv hcell' (by intro y hy;simp at hy) (λh₁ hns₁ hsb₁=>?_) hkind);dsimp only at hns₁ hsb₁ ⊢;generalize hp:s₂.heap.push { cls:=.type "list", dict:=none,data:=.seq ([]:List aa).toArray }=hpL at hns₁ hsb₁ ⊢;have hsz:hpL.objs.size=s₂.heap.objs.size+1:=by rw[<-hp,bZ]
 have I3:Inv X pins σ (upd H2 s₂.heap.objs.size (.lst [])) { s₂ with heap:=hpL }:=by rw[<-hp];exact I2.laid (t':=s₂.toks) (λb u e=>aA _ e) (aC _) ⟨bR _,[],0,.nil,aU _ rfl⟩
 have old:∀b o,hpL.get? b=some o->h₁.get? b=some o:=λb o e=>hsb₁.extBut b o (aI (aD e)) (aA _ e);have older:∀b o,s₂.heap.get? b=some o->hpL.get? b=some o:=λb o e=>by rw[<-hp];exact aA _ e
 have hfpS:∀b∈fp,b<s₂.heap.objs.size:=λb hb=>let ⟨o,e,_⟩:=T.obj _ _ st2 b hb;aD e;have sub:∀x c,(ux X.env.cells scope.names).lookup x=some c->X.env.cells.lookup x=some c:=Fv scope.names [] hcl (λx c e=>by cases e);have ok':(ra X N' scope (ux X.env.cells scope.names) hpL.objs.size fp { s₂ with heap:=hpL } (upd H2 s₂.heap.objs.size (.lst []))).Ok:={
  mod:=I3.ok.mod
  kind:=hkind
  glob:=I3.ok.glob
  blt:=I3.ok.blt
  above:=aC _
  inj:=λx y c h1 h2=>I3.ok.inj x y c (sub x c h1) (sub y c h2)
  has:=λx hx=>B3 scope.names [] x (GW hcell' hx)
  cab:=λx c hf _=>ao (show false=true from hf) aT
  hd:=I3.ok.hd
  frames:=I3.ok.frames
  stk:=.inl rfl
  exf:=λb hb=>⟨(by
   show b≠hpL.objs.size;rw[hsz];exact aI (cY (hfpS b hb))),λx c e=>(f2 b hb).2.2.2.2.1 x c (sub x c e)⟩
  bs:=I3.bs
  bsz:=bc I3.ok.bsz I3.sz
  noex:=λb o e hb=>by
   rcases(f2 b hb).2.2.2.1 with z|z
   ·exact I3.ok.noex b o e z
   ·exact ao (bG (aD e) (bc I3.ok.bsz z)) (dH _)
  exfs:=λb hb z=>(aH.mp (I3.stkSub b z)).elim (f2 b hb).2.1 (f2 b hb).2.2.1
  funs:=I3.stack
  frf:=I3.stkFree }
 have IX:Inv (ra X N' scope (ux X.env.cells scope.names) hpL.objs.size fp { s₂ with heap:=hpL } (upd H2 s₂.heap.objs.size (.lst []))) [] (tJ k cap σ) (upd H2 s₂.heap.objs.size (.lst []))
   { s₂ with heap:=h₁,toks:=s₂.toks+([]:List (Str×aa)).length }:={
  ok:=ok'
  os:=rfl
  bare:=I3.bare
  base:=Un.kept old
  loc:=⟨_,hns₁,λi x v e1 e2 _=>by
   obtain⟨j,hj,hσ,hm⟩:=JF hcap e1 e2;have hx:scope.names.lookup x=some .free:=by simpa using aE.mp hcf x hm
   have hk:=hfree' (x,.free) (mem_of_lookup hx) rfl;obtain⟨m,hn,hl⟩:=I3.loc;obtain⟨u,r,lk⟩:=hl j x v hj hσ (hk.elim (λz=>.inr (.inl z)) λz=>.inr (.inr z));refine⟨u,r,.inr ⟨Do hx,?_⟩⟩;rcases lk with ⟨z,_⟩|⟨_,c,e,o,ho,hd⟩
   ·rcases hk with y|y
    ·rw[y]at z;cases z
    ·rw[y]at z;cases z
   ·obtain⟨c',e'⟩:=B3 (cells:=X.env.cells) scope.names [] x (mem_of_lookup hx);have ec:=sub x c' e';rw[e]at ec;have ec':c=c':=bN ec;subst ec';exact⟨c,e',o,old _ _ ho,hd⟩⟩
  cell:=λx c e=>by obtain⟨v,o,ho,hd⟩:=I3.cell x c (sub x c e);exact⟨v,o,old _ _ ho,hd⟩
  free:=I3.hok.fresh (aC _)
  freeC:=λx c e=>I3.freeC x c (sub x c e)
  pin:=λp hp=>ao (show p∈([]:List (Addr×Obj)) from hp) (by simp)
  hok:=I3.hok.kept old
  len:=by
   show (tJ k cap σ).length=N'.length;rw[hlen];unfold tJ;rw[au,bV,af] }
 have stat:∀{H':Hp},(∀b∈fp,H' b=none)->∀b∈fp,Ew (ra X N' scope (ux X.env.cells scope.names) hpL.objs.size fp { s₂ with heap:=hpL } (upd H2 s₂.heap.objs.size (.lst []))) [] H' b:=λhn b hb=>⟨hn b hb,(ok'.exf b hb).1,ok'.exfs b hb,.inl hb,(ok'.exf b hb).2,λp hp=>ao (show p∈([]:List (Addr×Obj)) from hp) (by simp)⟩
 have st4:tn 0 h₁:=T.keep _ _ _ st2 λb _ o e=>old b o (older b o e);have loop:bI (model X.prog X.w) X.A (.compLoop (.ListComp elt [⟨tg,iter,ifs,0⟩] scope pos) 0 (.ref ita) (.ref s₂.heap.objs.size) (compEnvC scope (ux X.env.cells scope.names) hpL.objs.size X.env))
   (compPost (model X.prog X.w) X.A X.xe use P (.ref s₂.heap.objs.size) hpL.objs.size) { s₂ with heap:=h₁,toks:=s₂.toks+([]:List (Str×aa)).length }:=by
  refine EJ (λn s'=>∃i acc H',Inv (ra X N' scope (ux X.env.cells scope.names) hpL.objs.size fp { s₂ with heap:=hpL } (upd H2 s₂.heap.objs.size (.lst []))) [] (tJ k cap σ) H' s'/\tn i s'.heap/\(∀b∈fp,H' b=none)/\W i n acc H')
   ?_ m0 ⟨0,[],_,IX,st4,λb hb=>?_,w0⟩
  ·rintro n s3 ⟨i,acc,H3,I4,st3,fr3,w3⟩;rcases turn i n acc H3 w3 with ⟨stop,qn⟩|⟨go,step⟩
   ·refine thn (T.done (ra X N' scope (ux X.env.cells scope.names) hpL.objs.size fp { s₂ with heap:=hpL } (upd H2 s₂.heap.objs.size (.lst []))) rfl rfl rfl hc i [] s3 _ H3 _ I4 (stat fr3) st3 stop) λr s4 zz=>?_;obtain⟨hr,I5⟩:=zz;subst hr;obtain⟨m,hn,_⟩:=id I5.loc;have U:=I5.base;refine fin _ _ m _ _ _ hn (I3.call' (s':=s4) (ch:=fp) I5.os ⟨λb o e n hb hx=>U.keep b o e n hb hx,λb o e n hb hx=>U.slot b o e n hb hx,U.free,λb o e hx=>U.there b o e hx,U.tups,U.frzs,U.tbls⟩ I5.hok I5.bare
     λb hb=>⟨(f2 b hb).2.2.2.1,(f2 b hb).2.1,(f2 b hb).2.2.2.2.1,(f2 b hb).2.2.2.2.2⟩) (I3.fpOk (aC _) I5.free) qn
   ·refine thn (T.item (ra X N' scope (ux X.env.cells scope.names) hpL.objs.size fp { s₂ with heap:=hpL } (upd H2 s₂.heap.objs.size (.lst []))) rfl rfl rfl hc i [] s3 _ H3 _ I4 (stat fr3) st3 go) λr s4 zz=>?_;obtain⟨u,hr,h4⟩:=zz;subst hr;refine thn h4 λ_ s5 zz=>?_;obtain⟨x,H5,I5,r5,y5,st5,fr5⟩:=zz;have I5':=I5.pinned (stat fr5) (T.obj _ _ st5);have again:∀{H8:Hp} {s8:ab} {σ8:St} {acc8:List V} {m':Nat},Inv (ra X N' scope (ux X.env.cells scope.names) hpL.objs.size fp { s₂ with heap:=hpL } (upd H2 s₂.heap.objs.size (.lst []))) ([]++BQ fp s5.heap) σ8 H8 s8->σ8.drop k=(tJ k cap σ).drop k->m'<n->W (i+1) m' acc8 H8->
      ∃m,m<n/\∃i acc H',Inv (ra X N' scope (ux X.env.cells scope.names) hpL.objs.size fp { s₂ with heap:=hpL } (upd H2 s₂.heap.objs.size (.lst []))) [] (tJ k cap σ) H' s8/\tn i s8.heap/\(∀b∈fp,H' b=none)/\W i m acc H':=λ{H8 s8 σ8 acc8 m'} I8 hd8 hm8 w8=>by
     refine⟨m',hm8,i+1,acc8,H8,I8.unpinned.weak (IX.len.trans I8.len.symm) (λj v e=>?_),T.keep _ _ _ st5 λb hb o e=>(I8.pin (b,o) (aZ _ (aZ _ (uW hb e)))).1,λb hb=>?_,w8⟩
     ·have hj:=DO e;have q:(σ8.drop k)[j - k]?=((tJ k cap σ).drop k)[j - k]?:=by rw[hd8]
      rw[dt,dt,show k+(j - k)=j by omega]at q;rw[q];exact e
     ·obtain⟨o,e,d⟩:=T.obj _ _ st5 b hb;exact(I8.pin (b,o) (aZ _ (aZ _ (uW hb e)))).2.1
    refine bH ((body _ _ _ _ _).1 _ s5 _ H5 x u _ I5' r5 (step x H5 y5)) (λ_ s6 h6=>?_) λ_ _ f=>f.elim;obtain⟨σ6,H6,I6,hd6,q6⟩:=h6;refine bH ((body _ _ _ _ _).2.1 _ s6 σ6 H6 _ I6 q6) (λb s7 h7=>?_) λ_ _ f=>f.elim;obtain⟨H7,I7,q7⟩:=h7;cases b with
    |false=>rw[aj aT]at q7;rw[aj aT];obtain⟨m',hm',w7⟩:=q7;exact again I7 hd6 hm' w7
    |true=>rw[ah rfl]at q7;rw[ah rfl];refine bH ((body _ _ _ _ _).2.2 _ s7 σ6 H7 _ I7 q7) (λyv s8 h8=>?_) λ_ _ f=>f.elim;obtain⟨y,H8,I8,r8,acc',hp8,hl8,m',hm',w8⟩:=h8;refine bH (Ar (X:=ra X N' scope (ux X.env.cells scope.names) hpL.objs.size fp { s₂ with heap:=hpL } (upd H2 s₂.heap.objs.size (.lst []))) _ s8 σ6 H8 (.ref s₂.heap.objs.size) [y] (.ref s₂.heap.objs.size) [yv] (λ_ Hx=>Hx=upd H8 s₂.heap.objs.size (.lst (acc'++[y]))) I8 rfl (.cons r8 .nil) ⟨_,acc',y,rfl,rfl,hp8,hl8,rfl⟩) (λ_ s9 h9=>?_) λ_ _ f=>f.elim;obtain⟨_,H9,I9,_,e9⟩:=h9;subst e9;exact again I9 hd6 hm' w8
  ·have z:b≠s₂.heap.objs.size:=aI (hfpS b hb);rw[pM z];exact(f2 b hb).1
 exact codeAny_compStart_list loop (T.self _ 0 _ _ _ st4 loop)
theorem NP{k:Nat}{cap:List Nat}{g:TG}
  (hc:X.calm=true) (hi:PI X tg iter wi)
  (body:∀(cl:List (Str×Addr)) (C:Addr) (fp:List Addr) (s:ab) (H:Hp),PG (ra X N' scope cl C fp s H) tg g/\PIf (ra X N' scope cl C fp s H) ifs tt/\PE (ra X N' scope cl C fp s H) elt te)
  (hkind:scope.kind=.function:=by rfl) (hcell:(scope.names.all λy=>y.2 != .cell)=true:=by rfl)
  (hloc:(scope.names.all λy=>y.2 != .local||scope.names.lookup y.1==some .local)=true:=by rfl)
  (hfree:(scope.names.all λy=>y.2 != .free||(X.env.kindOf y.1==some .cell||X.env.kindOf y.1==some .free))=true:=by rfl)
  (hlen:N'.length=k+cap.length:=by rfl) (hcap:(N'.drop k).map some=cap.map λj=>X.N[j]?:=by rfl)
  (hcf:((N'.drop k).all λx=>scope.names.lookup x==some .free)=true:=by rfl)
  (hs:∀x,fM iter X.env x=pure x:=by intro _;rfl):
  PE X (.ListComp elt [⟨tg,iter,ifs,0⟩] scope pos) (AY wi g tt te k cap):=by
 intro pins s σ H Q I h;exact DP hc hi body hkind hcell hloc hfree hlen hcap hcf hs I h λa C m u s4 H3 hn back fpC qn=>⟨m,hn,λh' hs'=>⟨.ref a,H3,back.turned (t':=s4.toks) (λb o hb e=>(hs'.2 b hb).trans e) fpC.1 fpC.2.1 fpC.2.2.2.1 fpC.2.2.2.2.1 fpC.2.2.2.2.2,rfl,qn⟩⟩
def Its(x:Str):It:=⟨λi _=>i<x.cps.size,λi H v H'=>H'=H/\∃c,x.cps[i]?=some c/\v=.str ⟨#[c]⟩,λi _=>i=x.cps.size⟩
theorem QE{M:Model}{A:av}{E:aa->ab->Prop}{s:ab}{it:Addr}{c:Str}{t:Tok}{Q:Unit->ab->Prop}(hQ:Q () s):ag M A (eX tg (.ref it) (.str c t)) Q E s:=by unfold eX;cases tg<;>exact ai hQ
theorem Fw{P:ar}{w:aq}{K:ak}(it:Addr)(ty:String)(x:Str)(t:Tok)
  (hW:∀A:av,A.handled=none->Walks P w A it [it] [it] x.cps.size (SignAt x) (λi h=>h.IsStrIter it ty x t i))
  (hS:∀(A:av) (i:Nat) (s:ab) (Q:aa->ab->Prop) (E:aa->ab->Prop),s.heap.IsStrIter it ty x t i->Q (.ref it) s->ag (model P w) A (pyIter (.ref it)) Q E s):
  Turn P w K tg (Its x) [it] it (λi h=>h.IsStrIter it ty x t i) where
 mem:=by simp
 obj:=λi h st b hb=>by
  have e:b=it:=by simpa using hb
  subst e;obtain⟨o,e,c,d⟩:=st;exact⟨o,e,λv z=>by rw[d]at z;cases z⟩
 keep:=λi h h' st k=>by obtain⟨o,e,r⟩:=st;exact⟨o,k it (by simp) o e,r⟩
 item:=by intro X hP hw hK hc i pins s σ H E I hf st hg;subst hP hw hK;obtain⟨f0,f1,f2,f3,f4,f5⟩:=hf it (by simp);refine(hW _ (I.ok.hd hc)).item i s _ _ hg st λv h' tk hv st' kk=>?_;obtain⟨c,t',hc',rfl⟩:=hv;have I1:Inv X pins σ H { s with heap:=h',toks:=tk }:=I.turned (λb o hb e=>kk b o (by simpa using hb) e) f0 f1 f3 f4 f5;exact⟨_,rfl,QE ⟨.str ⟨#[c]⟩,H,I1,⟨t',rfl⟩,⟨rfl,c,hc',rfl⟩,st',λb hb=>(hf b hb).1⟩⟩
 done:=by intro X hP hw hK hc i pins s σ H E I hf st hg;subst hP hw hK;obtain⟨f0,f1,f2,f3,f4,f5⟩:=hf it (by simp);have hg':i=x.cps.size:=hg;subst hg';exact(hW _ (I.ok.hd hc)).done s _ _ st λh' tk kk=>⟨rfl,I.turned (λb o hb e=>kk b o (by simpa using hb) e) f0 f1 f3 f4 f5⟩
 self:=hS
variable{l:Expr}{tl:TE}
section
variable{X:Cx}{tg:Expr}
def UA(tl:TE):TI:=λσ H R=>tl σ H λv H1=>∃x,v=.str x/\R (Its x) H1
theorem QF(hl:PE X l tl):PI X tg l (UA tl):=by
 intro pins s σ H R I h;refine thn (hl pins s σ H _ I h) λv s1 zz=>?_;obtain⟨x,H1,I1,r1,q1⟩:=zz;obtain⟨z,e,q⟩:=q1;subst e;obtain⟨t,rfl⟩:=r1;have fp:∀b∈[s1.heap.objs.size],Ew X pins H1 b:=λb hb=>by
  have e:b=s1.heap.objs.size:=by simpa using hb
  subst e;exact I1.fpOk (aC _) (I1.hok.fresh (aC _))
 cases ha:z.cps.all (· < 128)
 ·refine wpAny_pyIter_wide ha ⟨s1.heap.objs.size,[s1.heap.objs.size],_,_,H1,rfl,I1.kept (t':=s1.toks) λb o e=>aA _ e,Fw _ "str_iterator" z t (λA hA=>Walks.strWide hA _ z t) (λA i s Q E st hQ=>wpAny_pyIter_striter_wide st hQ),⟨_,aU _ rfl,rfl,rfl⟩,fp,q⟩
 ·refine wpAny_pyIter_ascii ha ⟨s1.heap.objs.size,[s1.heap.objs.size],_,_,H1,rfl,I1.kept (t':=s1.toks) λb o e=>aA _ e,Fw _ "str_ascii_iterator" z t (λA hA=>Walks.strAscii hA _ z t) (λA i s Q E st hQ=>wpAny_pyIter_striter_ascii st hQ),⟨_,aU _ rfl,rfl,rfl⟩,fp,q⟩
end
section
variable{X:Cx}
theorem JG:OpR X (aV .LtE) (λx y H Q=>∃i j,x=.str i/\y=.str j/\Q (.bl (!decide (j.cps.toList<i.cps.toList))) H):=by intro pins s σ H x y v u Q I rx ry h;obtain⟨i,j,rfl,rfl,q⟩:=h;obtain⟨t,rfl⟩:=rx;obtain⟨t',rfl⟩:=ry;exact PySem.P.le_str (qm I q rfl)
theorem KQ(hc:X.calm=true):rY X (.builtin "all") (λxs H Q=>∃(p:Addr) (bs:List Bool),xs=[.ref p]/\SqL X.K H p (bs.map V.bl)/\Q (.bl (bs.all id)) H):=by
 intro pins s σ H xs us Q I r h;obtain⟨p,bs,rfl,hq,q⟩:=h;obtain⟨u,rfl,ru⟩:=vals1 r;cases ru;obtain⟨its,rv,pl,hz⟩:=I.list hq;have hlt:p<s.heap.objs.size:=by obtain⟨o,ho,_⟩:=pl.isList;exact aD ho
 have hl:bs.length=its.length:=by have:=rv.length;rw[af]at this;exact this
 refine call_all_walk (dW pl.isList ⟨s.heap.objs.size,_,_,_,_,_,λi=>(bs[i]?).getD true,rfl,gb (show X.A.in1.handled=none from I.ok.hd hc) _ p (aI hlt) its.toArray,⟨⟨_,aU _ rfl,rfl,rfl⟩,?_⟩,?_,λh' tk hk=>?_⟩)
 ·exact pl.isList.at λo e=>aA _ e
 ·intro i v s' Q' E' hv hQ';have hv':its[i]?=some v:=by simpa using hv
  have hi:i<its.length:=(bE.mp hv').1;have hb:(bs.map V.bl)[i]?=some (.bl (bs[i]'(by omega))):=by simp[show i<bs.length by omega]
  obtain⟨u,hu,ru⟩:=rv.get hb;rw[hv']at hu;cases hu;cases ru;refine cq ?_;have e:(bs[i]?).getD true=bs[i]'(by omega):=by simp[show i<bs.length by omega]
  rw[<-e];exact hQ'
 ·refine⟨.bl (bs.all id),H,?_,?_,q⟩
  ·exact I.kept (t':=tk) λb o e=>hk b o (by simp;exact aI (aD e)) (aA _ e)
  ·show Value.bool _=Value.bool _;congr 1;rw[aM,<- hl];rw[cE];simp only[aE,bo,id];constructor
   ·intro hh b hb;obtain⟨i,hi,rfl⟩:=kg.mp hb;have:=hh i hi;simpa [hi]using this
   ·intro hh i hi;simp only[aY hi,lD];exact hh _ (dX hi)
end
inductive Dq where
 |non|bl (b:Bool)|int (i:Int)|str (x:Str)|tup (ds:List Dq)|lst (ds:List Dq)
mutual
def Rep(K:ak)(H:Hp):Dq->V->Prop
 |.non,v=>v=.non
 |.bl b,v=>v=.bl b
 |.int i,v=>v=.int i
 |.str x,v=>v=.str x
 |.tup ds,v=>∃a xs,v=.ref a/\SqT K H a xs/\pE K H ds xs
 |.lst ds,v=>∃a xs,v=.ref a/\SqL K H a xs/\pE K H ds xs
def pE(K:ak)(H:Hp):List Dq->List V->Prop
 |[],xs=>xs=[]
 |d::ds,xs=>∃v r,xs=v::r/\Rep K H d v/\pE K H ds r
end
mutual
def eqD:Dq->Dq->Bool
 |.non,.non=>true
 |.bl a,.bl b=>a==b
 |.bl a,.int b=>(if a then 1 else 0)==b
 |.int a,.bl b=>a==(if b then 1 else 0)
 |.int a,.int b=>a==b
 |.str a,.str b=>a==b
 |.tup a,.tup b=>wV a b
 |.lst a,.lst b=>wV a b
 |_,_=>false
def wV:List Dq->List Dq->Bool
 |[],[]=>true
 |a::r,b::q=>eqD a b&&wV r q
 |_,_=>false
end
mutual
def dpt:Dq->Nat
 |.tup ds=>qX ds+1
 |.lst ds=>qX ds+1
 |_=>0
def qX:List Dq->Nat
 |[]=>0
 |d::r=>max (dpt d) (qX r)
end
mutual
theorem Fy:∀d:Dq,eqD d d=true
 |.non=>by unfold eqD;rfl
 |.bl b=>by unfold eqD;simp
 |.int i=>by unfold eqD;simp
 |.str x=>by unfold eqD;simp
 |.tup ds=>by unfold eqD;exact As ds
 |.lst ds=>by unfold eqD;exact As ds
theorem As:∀ds:List Dq,wV ds ds=true
 |[]=>by unfold wV;rfl
 |d::r=>by unfold wV;rw[Fy d,As r];rfl
end
theorem pF{K:ak}{H:Hp}:∀{ds:List Dq} {xs:List V},pE K H ds xs->ds.length=xs.length
 |[],xs,h=>by unfold pE at h;subst h;rfl
 |d::ds,xs,h=>by unfold pE at h;obtain⟨v,r,rfl,_,h2⟩:=h;rw[aB,aB,pF h2]
def eAt(ds ds':List Dq)(j:Nat):Bool:=match ds[j]?,ds'[j]? with
 |some a,some b=>eqD a b
 |_,_=>true
theorem B4:∀(ds ds':List Dq),wV ds ds'=true ↔ ds.length=ds'.length/\∀j,j<ds.length->eAt ds ds' j=true
 |[],[]=>by simp[wV]
 |[],b::q=>by simp[wV]
 |a::r,[]=>by simp[wV]
 |a::r,b::q=>by
  have ih:=B4 r q;unfold wV;rw[aF,ih,aB,aB];constructor
  ·rintro⟨h1,h2,h3⟩;refine⟨by omega,λj hj=>?_⟩;cases j with
   |zero=>exact h1
   |succ j=>exact h3 j (by omega)
  ·rintro⟨h1,h2⟩;exact⟨h2 0 (by omega),by omega,λj hj=>h2 (j+1) (by omega)⟩
variable{ds ds':List Dq}
theorem wW{n m:Nat}(hn:ds.length=n)(hm:ds'.length=m):((aL (min n m)).all (eAt ds ds')&&n==m)=wV ds ds':=by
 rw[cE,B4,aF,aE];subst hn hm;constructor
 ·rintro⟨h1,h2⟩;have e:ds.length=ds'.length:=by simpa using h2
  exact⟨e,λj hj=>h1 j (bo.mpr (by omega))⟩
 ·rintro⟨e,h⟩;exact⟨λj hj=>h j (by have:=bo.mp hj;omega),by simpa using e⟩
theorem xX{n:Nat}(hn:ds.length=n)(hm:ds'.length=n):(aL n).all (eAt ds ds')=wV ds ds':=by rw[<-wW hn hm];simp
theorem B5(h:ds.length≠ds'.length):wV ds ds'=false:=by
 cases e:wV ds ds' with
 |false=>rfl
 |true=>exact ao ((B4 ds ds').mp e).1 h
section
variable{X:Cx}{pins:List (Addr×Obj)}{σ:St}{H:Hp}{s:ab}
theorem Pt(I:Inv X pins σ H s){a:Addr}{xs ys:List V}(h:SqL X.K H a xs)(h':SqT X.K H a ys):False:=by obtain⟨its,_,p,_⟩:=I.list h;obtain⟨its',_,p',_⟩:=I.tuple h';exact SeqAt.ne_of_list_tuple p.isList (show s.heap.IsTuple a its'.toArray from p') rfl
mutual
theorem B6(I:Inv X pins σ H s):∀(d d':Dq) (v:V),Rep X.K H d v->Rep X.K H d' v->eqD d d'=true
 |.non,d',v,h,h'=>by unfold Rep at h;subst h;cases d'<;>unfold Rep at h'<;>first|rfl|(exact nomatch h')|(obtain⟨_,_,e,_⟩:=h';exact nomatch e)
 |.bl b,d',v,h,h'=>by unfold Rep at h;subst h;cases d'<;>unfold Rep at h'<;>first|(obtain⟨_,_,e,_⟩:=h';cases e)|(cases h'<;>simp[eqD])
 |.int b,d',v,h,h'=>by unfold Rep at h;subst h;cases d'<;>unfold Rep at h'<;>first|(obtain⟨_,_,e,_⟩:=h';cases e)|(cases h'<;>simp[eqD])
 |.str b,d',v,h,h'=>by unfold Rep at h;subst h;cases d'<;>unfold Rep at h'<;>first|(obtain⟨_,_,e,_⟩:=h';cases e)|(cases h'<;>simp[eqD])
 |.tup ds,d',v,h,h'=>by
  unfold Rep at h;obtain⟨a,xs,rfl,hq,hr⟩:=h;cases d' with
  |tup ds'=>unfold Rep at h';obtain⟨a',xs',e,hq',hr'⟩:=h';cases e;have ex:=I.tuple_inj hq hq';subst ex;unfold eqD;exact Au I ds ds' xs hr hr'
  |lst ds'=>unfold Rep at h';obtain⟨a',xs',e,hq',hr'⟩:=h';cases e;exact(Pt I hq' hq).elim
  |_=>unfold Rep at h';exact nomatch h'
 |.lst ds,d',v,h,h'=>by
  unfold Rep at h;obtain⟨a,xs,rfl,hq,hr⟩:=h;cases d' with
  |lst ds'=>unfold Rep at h';obtain⟨a',xs',e,hq',hr'⟩:=h';cases e;have ex:=I.list_inj hq hq';subst ex;unfold eqD;exact Au I ds ds' xs hr hr'
  |tup ds'=>unfold Rep at h';obtain⟨a',xs',e,hq',hr'⟩:=h';cases e;exact(Pt I hq hq').elim
  |_=>unfold Rep at h';exact nomatch h'
theorem Au(I:Inv X pins σ H s):∀(ds ds':List Dq) (xs:List V),pE X.K H ds xs->pE X.K H ds' xs->wV ds ds'=true
 |[],ds',xs,h,h'=>by
  unfold pE at h;subst h;cases ds' with
  |nil=>rfl
  |cons d r=>unfold pE at h';obtain⟨_,_,e,_⟩:=h';exact nomatch e
 |d::ds,ds',xs,h,h'=>by
  unfold pE at h;obtain⟨v,r,rfl,h1,h2⟩:=h;cases ds' with
  |nil=>unfold pE at h';exact nomatch h'
  |cons d' r'=>unfold pE at h';obtain⟨v',q,e,h1',h2'⟩:=h';cases e;unfold wV;rw[B6 I d d' v h1 h1',Au I ds r' r h2 h2'];rfl
end
mutual
theorem KR(I:Inv X pins σ H s):∀(d d':Dq) (x y:V) (u v:aa) (A:av),Rep X.K H d x->Rep X.K H d' y->RelV x u->RelV y v->A.units+dpt d+dpt d'<cLine->f9 A s u v (eqD d d')
 |.tup ds,d',x,y,u,v,A,hx,hy,ru,rv,hu=>by
  unfold Rep at hx;obtain⟨a,xs,rfl,hq,hr⟩:=hx;cases ru;obtain⟨its,rx,p,_⟩:=I.tuple hq;have p:s.heap.IsTuple a its.toArray:=p;cases d' with
  |non=>unfold Rep at hy;subst hy;cases rv;exact oj p (by omega)
  |bl b=>unfold Rep at hy;subst hy;cases rv;exact om b p (by omega)
  |int b=>unfold Rep at hy;subst hy;obtain⟨t,rfl⟩:=rv;exact oF b t p (by omega)
  |str b=>unfold Rep at hy;subst hy;obtain⟨t,rfl⟩:=rv;exact oG b t p (by omega)
  |lst ds'=>unfold Rep at hy;obtain⟨b,ys,rfl,hq',hr'⟩:=hy;cases rv;obtain⟨its',ry,p',_⟩:=I.list hq';exact oo p p'.isList (by omega)
  |tup ds'=>
   have hy0:=hy;unfold Rep at hy;obtain⟨b,ys,rfl,hq',hr'⟩:=hy;cases rv;obtain⟨its',ry,p',_⟩:=I.tuple hq';have p':s.heap.IsTuple b its'.toArray:=p';by_cases hab:a=b
   ·subst hab;have e:eqD (.tup ds) (.tup ds')=true:=B6 I _ _ (.ref a) (by unfold Rep;exact⟨a,xs,rfl,hq,hr⟩) hy0;rw[e];exact ja _
   ·have hd:dpt (.tup ds)=qX ds+1:=by rw[dpt]
    have hd':dpt (.tup ds')=qX ds'+1:=by rw[dpt]
    have q:=o9 (A:=A) (e:=eAt ds ds') p p' (by omega) λj h1 h2=>by have z:=wX I ds ds' xs ys its its' A.in1 hr hr' rx ry (by show A.units+1+qX ds+qX ds'<cLine;omega) j (by simpa using h1) (by simpa using h2);simpa using z
    rw[wW (by rw[pF hr,rx.length];simp) (by rw[pF hr',ry.length];simp)]at q;exact iO hab (by unfold eqD;exact q)
 |.lst ds,d',x,y,u,v,A,hx,hy,ru,rv,hu=>by
  unfold Rep at hx;obtain⟨a,xs,rfl,hq,hr⟩:=hx;cases ru;obtain⟨its,rx,p,_⟩:=I.list hq;have p:=p.isList;cases d' with
  |non=>unfold Rep at hy;subst hy;cases rv;exact oH p (by omega)
  |bl b=>unfold Rep at hy;subst hy;cases rv;exact oI b p (by omega)
  |int b=>unfold Rep at hy;subst hy;obtain⟨t,rfl⟩:=rv;exact oT b t p (by omega)
  |str b=>unfold Rep at hy;subst hy;obtain⟨t,rfl⟩:=rv;exact oU b t p (by omega)
  |tup ds'=>unfold Rep at hy;obtain⟨b,ys,rfl,hq',hr'⟩:=hy;cases rv;obtain⟨its',ry,p',_⟩:=I.tuple hq';exact oq p (show s.heap.IsTuple b its'.toArray from p') (by omega)
  |lst ds'=>
   have hy0:=hy;unfold Rep at hy;obtain⟨b,ys,rfl,hq',hr'⟩:=hy;cases rv;obtain⟨its',ry,p',_⟩:=I.list hq';have p':=p'.isList;by_cases hab:a=b
   ·subst hab;have e:eqD (.lst ds) (.lst ds')=true:=B6 I _ _ (.ref a) (by unfold Rep;exact⟨a,xs,rfl,hq,hr⟩) hy0;rw[e];exact ja _
   ·have hd:dpt (.lst ds)=qX ds+1:=by rw[dpt]
    have hd':dpt (.lst ds')=qX ds'+1:=by rw[dpt]
    by_cases hl:its.length=its'.length
    ·have q:=pf (A:=A) (e:=eAt ds ds') p p' (by simpa using hl) (by omega) λj h1 h2=>by have z:=wX I ds ds' xs ys its its' A.in1 hr hr' rx ry (by show A.units+1+qX ds+qX ds'<cLine;omega) j (by simpa using h1) (by simpa using h2);simpa using z
     rw[xX (by rw[pF hr,rx.length];simp) (by rw[pF hr',ry.length,<- hl];simp)]at q;exact iO hab (by unfold eqD;exact q)
    ·have e:eqD (.lst ds) (.lst ds')=false:=by unfold eqD;exact B5 (by rw[pF hr,pF hr',rx.length,ry.length];exact hl)
     rw[e];exact iO hab (oa p p' (by simpa using hl) (by omega))
 |.non,d',x,y,u,v,A,hx,hy,ru,rv,hu=>by
  unfold Rep at hx;subst hx;cases d' with
  |tup ds'=>unfold Rep at hy;obtain⟨b,ys,rfl,hq',hr'⟩:=hy;cases rv;cases ru;obtain⟨its',ry,p',_⟩:=I.tuple hq';exact ou (show s.heap.IsTuple b its'.toArray from p') (by omega)
  |lst ds'=>unfold Rep at hy;obtain⟨b,ys,rfl,hq',hr'⟩:=hy;cases rv;cases ru;obtain⟨its',ry,p',_⟩:=I.list hq';exact oJ p'.isList (by omega)
  |_=>unfold Rep at hy;subst hy;exact BU ru rv rfl rfl
 |.bl c,d',x,y,u,v,A,hx,hy,ru,rv,hu=>by
  unfold Rep at hx;subst hx;cases d' with
  |tup ds'=>unfold Rep at hy;obtain⟨b,ys,rfl,hq',hr'⟩:=hy;cases rv;cases ru;obtain⟨its',ry,p',_⟩:=I.tuple hq';exact ox c (show s.heap.IsTuple b its'.toArray from p') (by omega)
  |lst ds'=>unfold Rep at hy;obtain⟨b,ys,rfl,hq',hr'⟩:=hy;cases rv;cases ru;obtain⟨its',ry,p',_⟩:=I.list hq';exact oK c p'.isList (by omega)
  |_=>unfold Rep at hy;subst hy;exact BU ru rv rfl rfl
 |.int c,d',x,y,u,v,A,hx,hy,ru,rv,hu=>by
  unfold Rep at hx;subst hx;cases d' with
  |tup ds'=>unfold Rep at hy;obtain⟨b,ys,rfl,hq',hr'⟩:=hy;cases rv;obtain⟨t,rfl⟩:=ru;obtain⟨its',ry,p',_⟩:=I.tuple hq';exact oM c t (show s.heap.IsTuple b its'.toArray from p') (by omega)
  |lst ds'=>unfold Rep at hy;obtain⟨b,ys,rfl,hq',hr'⟩:=hy;cases rv;obtain⟨t,rfl⟩:=ru;obtain⟨its',ry,p',_⟩:=I.list hq';exact oV c t p'.isList (by omega)
  |_=>unfold Rep at hy;subst hy;exact BU ru rv rfl rfl
 |.str c,d',x,y,u,v,A,hx,hy,ru,rv,hu=>by
  unfold Rep at hx;subst hx;cases d' with
  |tup ds'=>unfold Rep at hy;obtain⟨b,ys,rfl,hq',hr'⟩:=hy;cases rv;obtain⟨t,rfl⟩:=ru;obtain⟨its',ry,p',_⟩:=I.tuple hq';exact oN c t (show s.heap.IsTuple b its'.toArray from p') (by omega)
  |lst ds'=>unfold Rep at hy;obtain⟨b,ys,rfl,hq',hr'⟩:=hy;cases rv;obtain⟨t,rfl⟩:=ru;obtain⟨its',ry,p',_⟩:=I.list hq';exact oW c t p'.isList (by omega)
  |_=>unfold Rep at hy;subst hy;exact BU ru rv rfl rfl
theorem wX(I:Inv X pins σ H s):∀(ds ds':List Dq) (xs ys:List V) (us vs:List aa) (A:av),pE X.K H ds xs->pE X.K H ds' ys->Vals xs us->Vals ys vs->A.units+qX ds+qX ds'<cLine->
  ∀(j:Nat) (h1:j<us.length) (h2:j<vs.length),f9 A s us[j] vs[j] (eAt ds ds' j)
 |[],ds',xs,ys,us,vs,A,hx,hy,ru,rv,hu,j,h1,h2=>by
  have:=pF hx;have:=ru.length;simp only[de]at *
  omega
 |d::ds,[],xs,ys,us,vs,A,hx,hy,ru,rv,hu,j,h1,h2=>by
  have:=pF hy;have:=rv.length;simp only[de]at *
  omega
 |d::ds,d'::ds',xs,ys,us,vs,A,hx,hy,ru,rv,hu,j,h1,h2=>by
  unfold pE at hx hy;obtain⟨x,xr,rfl,hx1,hx2⟩:=hx;obtain⟨y,yr,rfl,hy1,hy2⟩:=hy;have e1:qX (d::ds)=max (dpt d) (qX ds):=by rw[qX]
  have e2:qX (d'::ds')=max (dpt d') (qX ds'):=by rw[qX]
  cases ru with
  |cons r1 r2=>
   cases rv with
   |cons q1 q2=>
    cases j with
    |zero=>exact KR I d d' x y _ _ A hx1 hy1 r1 q1 (by omega)
    |succ j=>exact wX I ds ds' xr yr _ _ A hx2 hy2 r2 q2 (by omega) j (by simpa using h1) (by simpa using h2)
end
def KU:Dq->Dq->Bool
 |.tup _,.tup _=>true
 |.lst _,.lst _=>true
 |_,_=>false
def GY(K:ak)(neg:Bool):R2:=λx y H Q=>∃d d',Rep K H d x/\Rep K H d' y/\KU d d'=true/\dpt d<=20/\dpt d'<=20/\Q (.bl (if neg then !eqD d d' else eqD d d')) H
theorem QG(hu:X.A.units+64<cLine):OpR X (aV .Eq) (GY X.K false):=by
 intro pins s σ H x y u v Q I ru rv h;obtain⟨d,d',hx,hy,hd,h1,h2,q⟩:=h;cases d with
 |tup ds=>
  cases d' with
  |tup ds'=>
   have hd1:dpt (.tup ds)=qX ds+1:=by rw[dpt]
   have hd2:dpt (.tup ds')=qX ds'+1:=by rw[dpt]
   unfold Rep at hx hy;obtain⟨a,xs,rfl,hq,hr⟩:=hx;obtain⟨b,ys,rfl,hq',hr'⟩:=hy;cases ru;cases rv;obtain⟨its,rx,p,_⟩:=I.tuple hq;obtain⟨its',ry,p',_⟩:=I.tuple hq';refine SeqAt.eq_tupleAt (e:=eAt ds ds') (show s.heap.IsTuple a its.toArray from p) (show s.heap.IsTuple b its'.toArray from p') (by omega) (λj h1 h2=>?_) ?_
   ·have z:=wX I ds ds' xs ys its its' X.A.in1 hr hr' rx ry (by show X.A.units+1+qX ds+qX ds'<cLine;omega) j (by simpa using h1) (by simpa using h2);simpa using z
   ·rw[wW (by rw[pF hr,rx.length];simp) (by rw[pF hr',ry.length];simp)];unfold eqD at q;exact qm I q rfl
  |_=>exact nomatch hd
 |lst ds=>
  cases d' with
  |lst ds'=>
   have hd1:dpt (.lst ds)=qX ds+1:=by rw[dpt]
   have hd2:dpt (.lst ds')=qX ds'+1:=by rw[dpt]
   unfold Rep at hx hy;obtain⟨a,xs,rfl,hq,hr⟩:=hx;obtain⟨b,ys,rfl,hq',hr'⟩:=hy;cases ru;cases rv;obtain⟨its,rx,p,_⟩:=I.list hq;obtain⟨its',ry,p',_⟩:=I.list hq';by_cases hl:its.length=its'.length
   ·refine SeqAt.eq_listAt (e:=eAt ds ds') p.isList p'.isList (by simpa using hl) (by omega) (λj h1 h2=>?_) ?_
    ·have z:=wX I ds ds' xs ys its its' X.A.in1 hr hr' rx ry (by show X.A.units+1+qX ds+qX ds'<cLine;omega) j (by simpa using h1) (by simpa using h2);simpa using z
    ·rw[xX (by rw[pF hr,rx.length];simp) (by rw[pF hr',ry.length,<- hl];simp)];unfold eqD at q;exact qm I q rfl
   ·refine SeqAt.eq_list_lengthsAt p.isList p'.isList (by simpa using hl) (by omega) ?_;have e:wV ds ds'=false:=B5 (by rw[pF hr,pF hr',rx.length,ry.length];exact hl);unfold eqD at q;rw[e]at q;exact qm I q rfl
  |_=>exact nomatch hd
 |_=>exact nomatch hd
theorem QH(hu:X.A.units+64<cLine):OpR X (aV .NotEq) (GY X.K true):=by
 intro pins s σ H x y u v Q I ru rv h;obtain⟨d,d',hx,hy,hd,h1,h2,q⟩:=h;cases d with
 |tup ds=>
  cases d' with
  |tup ds'=>
   have hd1:dpt (.tup ds)=qX ds+1:=by rw[dpt]
   have hd2:dpt (.tup ds')=qX ds'+1:=by rw[dpt]
   unfold Rep at hx hy;obtain⟨a,xs,rfl,hq,hr⟩:=hx;obtain⟨b,ys,rfl,hq',hr'⟩:=hy;cases ru;cases rv;obtain⟨its,rx,p,_⟩:=I.tuple hq;obtain⟨its',ry,p',_⟩:=I.tuple hq';have w:=oX (A:=X.A) (e:=eAt ds ds') (show s.heap.IsTuple a its.toArray from p) (show s.heap.IsTuple b its'.toArray from p') (by omega) (λj h1 h2=>by
    have z:=wX I ds ds' xs ys its its' X.A.in1 hr hr' rx ry (by show X.A.units+1+qX ds+qX ds'<cLine;omega) j (by simpa using h1) (by simpa using h2);simpa using z)
   rw[wW (by rw[pF hr,rx.length];simp) (by rw[pF hr',ry.length];simp)]at w;unfold eqD at q;exact w X.prog X.w X.xe _ (qm I q rfl)
  |_=>exact nomatch hd
 |lst ds=>
  cases d' with
  |lst ds'=>
   have hd1:dpt (.lst ds)=qX ds+1:=by rw[dpt]
   have hd2:dpt (.lst ds')=qX ds'+1:=by rw[dpt]
   unfold Rep at hx hy;obtain⟨a,xs,rfl,hq,hr⟩:=hx;obtain⟨b,ys,rfl,hq',hr'⟩:=hy;cases ru;cases rv;obtain⟨its,rx,p,_⟩:=I.list hq;obtain⟨its',ry,p',_⟩:=I.list hq';by_cases hl:its.length=its'.length
   ·have w:=o4 (A:=X.A) (e:=eAt ds ds') p.isList p'.isList (by simpa using hl) (by omega) (λj h1 h2=>by
     have z:=wX I ds ds' xs ys its its' X.A.in1 hr hr' rx ry (by show X.A.units+1+qX ds+qX ds'<cLine;omega) j (by simpa using h1) (by simpa using h2);simpa using z)
    rw[xX (by rw[pF hr,rx.length];simp) (by rw[pF hr',ry.length,<- hl];simp)]at w;unfold eqD at q;exact w X.prog X.w X.xe _ (qm I q rfl)
   ·have e:wV ds ds'=false:=B5 (by rw[pF hr,pF hr',rx.length,ry.length];exact hl);unfold eqD at q;rw[e]at q;exact nz p.isList p'.isList (by simpa using hl) (by omega) X.prog X.w X.xe _ (qm I q rfl)
  |_=>exact nomatch hd
 |_=>exact nomatch hd
end
inductive vF:List Expr->List V->Prop
 |nil:vF [] []
 |cons {x:Str} {j:Nat} {pos:Pos} {es:List Expr} {vs:List V} (h:vF es vs):vF (.Constant (.str x) j pos::es) (.str x::vs)
theorem sj{n:Nat}(h:n<=1000):n<=ay:=fX (yI h)
theorem pL.new{p:Addr}{H H1:Hp}(x:pL H H1)(hp:H1 p=none)(o:HO):pL H (upd H1 p o):=λb u e=>by have z:=x b u e;rw[pM (sh z hp)];exact z
structure JH(K:ak)(x qual:Str)(st:Stmt)(f:Addr)(fd:bB)(T:Addr):Prop where
 ex:∃(oc:aa) (od:Option Addr) (kV doc pm:aa) (an:Option Addr) (cdv ct:aa) (osl:Array (Option aa)),
  fd=dq x qual (tI st) (qo st) (pP st) (.ref T) kV doc pm an cdv ct/\K.lookup f=some ⟨oc,od,.func fd,osl⟩/\fD K cdv qual=true
 kp:cO K (.ref f)=true
variable{qual:Str}{st:Stmt}{f T:Addr}{fd:bB}{ps:List Str}
section
variable{P:ar}{w:aq}{K:ak}{mg:Str->Option aa}{base:Heap}
theorem JH.ok{k:Nat}{sp:Sp}(F:JH K x qual st f fd T)(S:rR N ps (pP st))(len:∀vs H Q E,sp vs H Q E->vs.length=ps.length)
  (hbody:∀(cdv:aa) (A:av) (outer:List Env) (s:ab) (H:Hp) (vs:List V) (Q:VK) (E:XK),rG k (A.deeper (envOfC qual (pP st) s.heap.objs.size f cdv))->sp vs H Q E->
   ∃t,PSs (Fk CX0 P w K mg base N qual (pP st) f cdv A outer s H E).nox (qo st) t/\t { nx:=λ_ H'=>Q .non H',rt:=Q } (L2.start N vs) H):uw P w K mg base CX0 (k+1) f fd ps sp:=by
 obtain⟨oc,od,kV,doc,pm,an,cdv,ct,osl,rfl,lk,hcd⟩:=F.ex;refine Pm lk hcd S len λA outer s H vs Q E hr hsp=>?_;obtain⟨t,h,q⟩:=hbody cdv A outer s H vs Q E hr hsp;exact⟨t,h.nox,q⟩
end
theorem JH.binds{K:ak}{ds:List aa}{o:Obj}{items:Array aa}{n:Nat}(F:JH K x qual st f fd T)(ho:K.lookup T=some o)(hs:o.data=.seq items n)
  (h:∀(kV doc pm:aa) (an:Option Addr) (cdv ct:aa) (us:List aa),us.length=ps.length - ds.length->∃k,bindArgs (dq x qual (tI st) (qo st) (pP st) (.ref T) kV doc pm an cdv ct) ⟨us,[]⟩=seqItems? (.ref T)>>=k/\k (some items)=pure (ps.zip (us++ds))):Binds K fd ps ds:=by
 obtain⟨oc,od,kV,doc,pm,an,cdv,ct,osl,rfl,lk,hcd⟩:=F.ex;intro s us KX hl;obtain⟨k,h1,h2⟩:=h kV doc pm an cdv ct us (by rw[au]at hl;omega);exact BindsTo.of_defaults (k:=k) rfl (KX _ _ ho) hs h1 h2
section
variable{X:Cx}
theorem GZ:OpR X (bO .Mult) (λx y H Q=>∃z n,x=.str z/\y=.int n/\MulOk z n/\Q (.str (jN z n)) H):=by intro pins s σ H x y v u Q I rx ry h;obtain⟨z,n,rfl,rfl,hm,q⟩:=h;obtain⟨t,rfl⟩:=rx;obtain⟨t',rfl⟩:=ry;exact SB.mul hm λt2 k=>⟨.str _,H,I.tok _,⟨t2,rfl⟩,q⟩
end
section
variable{X:Cx}(K:ak)
theorem KW(hK:X.K=K:=by rfl):IxR X (NF K):=by subst hK;exact Ih
theorem FB(hl:PE X l tl)(hK:X.K=K:=by rfl):PI X tg l (Kp K tl):=by subst hK;exact Np hl
theorem NQ(hl:PE X l tl)(hK:X.K=K:=by rfl):PI X tg l (Qf K tl):=by subst hK;exact Qg hl
theorem NR{es:List Expr}{k:Nat}{t:TGs}{n:Nat}(hc:X.calm=true)(h:PGs X es t)(hn:(bD es X.env).length=n:=by rfl)(hst:(bD es X.env).findIdx? (·.1)=none:=by rfl)(hK:X.K=K:=by rfl):PG X (.Tuple es k pos) (Qb K n t):=by subst hK;exact Qc hc h hn hst
variable{o e:Expr}{es:List Expr}{to:TE}{t:TA}{name:Str}{apos cpos:Pos}{T id:String}{r:V->List V->Hp->VK->Prop}
theorem KY(pa:ik T)(slot:Slot T name id)(hty:typeOf (.builtin id)=pure (.type "method_descriptor"))(hm:MtR X id r)(ho:PE X o to)(ha:PA X (e::es) t)
  (hbase:df o name X.env (eval o X.env)=eval o X.env:=by rfl)
  (hfew:((ba cpos (aw (e::es) X.env)).all (λx=>!x.1)&&(backToKw cpos (cM [] X.env)).all (λx=>x.1.isSome)
   && decide ((e::es).length+([]:List dN).length+(if ([]:List dN).isEmpty then 0 else 1)<30))=true:=by rfl)
  (hline:(apos.endLine==cpos.line)=true:=by rfl) (hs:aw (e::es) X.env=(false,eval e X.env)::aw es X.env:=by rfl) (hplain:(ba cpos (aw es X.env)).any (·.1)=false:=by rfl) (hK:X.K=K:=by rfl):
  PE X (.Call (.Attribute o name apos) (e::es) [] cpos) (tBM K T r to t):=by subst hK;exact Uw pa slot hty hm ho ha hbase hfew hline hs hplain
end
end L3
namespace L2
open PySem PySem.Spec PyProof.Rows
variable{a:Addr}
section
variable{X:Cx}{pins:List (Addr×Obj)}{σ:St}{H:Hp}{s:ab}
theorem wC{H:Hp}{c:Addr}{u v:HO}(e:H a=some u)(q:H c=some v)(d:u≠v)(n:HO):upd H a n c=some v:=by rw[pM (λz=>by subst z;rw[e]at q;exact d (bN q))];exact q
theorem Inv.freeze{kvs:List (Key×V)}(I:Inv X pins σ H s)(e:H a=some (.dK kvs)):∃o,Inv X pins σ (upd H a (.frz o (.dK kvs))) s:=by
 obtain⟨z,y,vs,r,ob,es,ep,e1,c⟩:=(show qL X.prog X.w H s.heap a (.dK kvs) from I.hok a _ e);refine⟨ob,?_⟩;have I':=I.step (H':=upd H a (.frz ob (.dK kvs))) (h':=s.heap) (g':=s.gens) (d':=s.drawn) (t':=s.toks) (ch:=[]) (λ_ z=>nomatch z) (λb o _ _ _ q _=>q) (λb o _ _ _ q _=>⟨o.slots,q⟩)
  (λb o _ _ n=>by rw[pM (λz=>by subst z;rw[e]at n;cases n)];exact n) (λb o _ q=>⟨o,q⟩) (λb xs q=>wC e q (λz=>nomatch z) _) (λb o u q=>wC e q (λz=>nomatch z) _)
  (λb ps q=>⟨#[],by rw[wC e q (λz=>nomatch z) _];simp⟩) (λm q=>q) ?_ I.bare
 ·obtain⟨h,g,d,t,os⟩:=s;exact I'
 ·intro b u q;have st:∀{b:Addr} {u:HO},qL X.prog X.w H s.heap b u->qL X.prog X.w (upd H a (.frz ob (.dK kvs))) s.heap b u:=λ{b u} x=>x.stay (λ_ _ _ q=>q) (λc q=>wC e q (λz=>nomatch z) _) λc xs q=>wC e q (λz=>nomatch z) _
  by_cases hb:b=a
  ·subst hb;rw[pK]at q;cases q;exact⟨e1,st (I.hok b _ e)⟩
  ·rw[pM hb]at q;exact st (I.hok b u q)
theorem PE.ghost{e:Expr}{t:TE}(h:PE X e t):PE X e (λσ H Q=>t σ H λx H1=>Q x H1\/∃a kvs,H1 a=some (.dK kvs)/\∀o,Q x (upd H1 a (.frz o (.dK kvs)))):=λpins s σ H Q I hq=>
 thn (h pins s σ H _ I hq) λu s1 ⟨x,H1,I1,r1,q1⟩=>by
  rcases q1 with q|⟨a,kvs,e,q⟩
  ·exact⟨x,H1,I1,r1,q⟩
  ·obtain⟨o,I2⟩:=I1.freeze e;exact⟨x,_,I2,r1,q o⟩
end
end L2
namespace L4
open PySem PySem.Spec PyProof.Rows L2 L3
abbrev St:=L2.St
inductive D where
 |non|bl (b:Bool)|int (i:Int)|str (x:Str)
 |tup (ds:List D)|lst (ds:List D)
 |fzl (ds:List D)
 |obj (c:Nat) (ns:List Str) (ds:List D)
 |dic (ks:List Key) (ds:List D)
structure Bg where
 K:ak
 ca:Nat->Addr
mutual
def Rep(G:Bg)(H:Hp):D->V->Prop
 |.non,v=>v=.non
 |.bl b,v=>v=.bl b
 |.int i,v=>v=.int i
 |.str x,v=>v=.str x
 |.tup ds,v=>∃a xs,v=.ref a/\SqT G.K H a xs/\pE G H ds xs
 |.lst ds,v=>∃a xs,v=.ref a/\H a=some (.lst xs)/\pE G H ds xs
 |.fzl ds,v=>∃a xs,v=.ref a/\SqL G.K H a xs/\pE G H ds xs
 |.obj c ns ds,v=>∃a dx xs,v=.ref a/\H a=some (.ins (G.ca c) dx (ns.zip xs))/\ns.length=xs.length/\pE G H ds xs
 |.dic ks ds,v=>∃a o xs,v=.ref a/\H a=some (.frz o (.dK (ks.zip xs)))/\ks.length=xs.length/\pE G H ds xs
def pE(G:Bg)(H:Hp):List D->List V->Prop
 |[],xs=>xs=[]
 |d::ds,xs=>∃v r,xs=v::r/\Rep G H d v/\pE G H ds r
end
variable{H':Hp}{a:Addr}{xs:List V}
theorem SqT.mono{K:ak}{H:Hp}(e:pL H H')(h:SqT K H a xs):SqT K H' a xs:=by
 rcases h with (h|⟨o,h⟩)|h
 ·exact .inl (.inl (e _ _ h))
 ·exact .inl (.inr ⟨o,e _ _ h⟩)
 ·exact .inr h
mutual
theorem Rep.mono{G:Bg}{H H':Hp}(e:pL H H'):∀(d:D) (v:V),Rep G H d v->Rep G H' d v
 |.non,v,h=>by unfold Rep at h ⊢;exact h
 |.bl b,v,h=>by unfold Rep at h ⊢;exact h
 |.int i,v,h=>by unfold Rep at h ⊢;exact h
 |.str x,v,h=>by unfold Rep at h ⊢;exact h
 |.tup ds,v,h=>by unfold Rep at h ⊢;obtain⟨a,xs,rfl,h1,h2⟩:=h;exact⟨a,xs,rfl,SqT.mono e h1,pE.mono e ds xs h2⟩
 |.lst ds,v,h=>by unfold Rep at h ⊢;obtain⟨a,xs,rfl,h1,h2⟩:=h;exact⟨a,xs,rfl,e _ _ h1,pE.mono e ds xs h2⟩
 |.fzl ds,v,h=>by unfold Rep at h ⊢;obtain⟨a,xs,rfl,h1,h2⟩:=h;exact⟨a,xs,rfl,e.seq h1,pE.mono e ds xs h2⟩
 |.obj c ns ds,v,h=>by unfold Rep at h ⊢;obtain⟨a,dx,xs,rfl,h1,h2,h3⟩:=h;exact⟨a,dx,xs,rfl,e _ _ h1,h2,pE.mono e ds xs h3⟩
 |.dic ks ds,v,h=>by unfold Rep at h ⊢;obtain⟨a,o,xs,rfl,h1,h2,h3⟩:=h;exact⟨a,o,xs,rfl,e _ _ h1,h2,pE.mono e ds xs h3⟩
theorem pE.mono{G:Bg}{H H':Hp}(e:pL H H'):∀(ds:List D) (xs:List V),pE G H ds xs->pE G H' ds xs
 |[],xs,h=>by unfold pE at h ⊢;exact h
 |d::ds,xs,h=>by unfold pE at h ⊢;obtain⟨v,r,rfl,h1,h2⟩:=h;exact⟨v,r,rfl,Rep.mono e d v h1,pE.mono e ds r h2⟩
end
variable{d:D}{ds:List D}
section
variable{G:Bg}{H:Hp}
theorem qf:pE G H [] []:=by unfold pE;rfl
theorem qr{v:V}(h:Rep G H d v)(r:pE G H ds xs):pE G H (d::ds) (v::xs):=by unfold pE;exact⟨v,xs,rfl,h,r⟩
theorem pF:∀{ds:List D} {xs:List V},pE G H ds xs->ds.length=xs.length
 |[],xs,h=>by unfold pE at h;subst h;rfl
 |d::ds,xs,h=>by unfold pE at h;obtain⟨v,r,rfl,_,h2⟩:=h;rw[aB,aB,pF h2]
theorem rq:∀{ds es:List D} {xs ys:List V},pE G H ds xs->pE G H es ys->pE G H (ds++es) (xs++ys)
 |[],es,xs,ys,h,h'=>by unfold pE at h;subst h;exact h'
 |d::ds,es,xs,ys,h,h'=>by unfold pE at h;obtain⟨v,r,rfl,h1,h2⟩:=h;exact qr h1 (rq h2 h')
theorem uY:∀{ds:List D} {xs:List V} {i:Nat} {d:D},pE G H ds xs->ds[i]?=some d->∃v,xs[i]?=some v/\Rep G H d v
 |[],xs,i,d,h,e=>by simp at e
 |d'::ds,xs,i,d,h,e=>by
  unfold pE at h;obtain⟨v,r,rfl,h1,h2⟩:=h;cases i with
  |zero=>simp at e;subst e;exact⟨v,rfl,h1⟩
  |succ i=>simpa using uY (i:=i) (d:=d) h2 (by simpa using e)
theorem FC:∀{ds:List D} {xs:List V} (i:Nat) {d:D} {v:V},pE G H ds xs->Rep G H d v->pE G H (ds.set i d) (xs.set i v)
 |[],xs,i,d,v,h,e=>by unfold pE at h;subst h;exact qf
 |d'::ds,xs,i,d,v,h,e=>by
  unfold pE at h;obtain⟨v',r,rfl,h1,h2⟩:=h;cases i with
  |zero=>exact qr e h2
  |succ i=>exact qr h1 (FC i h2 e)
theorem DQ:∀{ds:List D} {xs:List V} (n:Nat),pE G H ds xs->pE G H (ds.drop n) (xs.drop n)
 |ds,xs,0,h=>h
 |[],xs,n+1,h=>by unfold pE at h;subst h;exact qf
 |d::ds,xs,n+1,h=>by unfold pE at h;obtain⟨v,r,rfl,h1,h2⟩:=h;exact DQ n h2
theorem DT:∀{ds:List D} {xs:List V} (n:Nat),pE G H ds xs->pE G H (ds.take n) (xs.take n)
 |ds,xs,0,h=>qf
 |[],xs,n+1,h=>by unfold pE at h;subst h;exact qf
 |d::ds,xs,n+1,h=>by unfold pE at h;obtain⟨v,r,rfl,h1,h2⟩:=h;exact qr h1 (DT n h2)
theorem BF(h:SqT G.K H a xs)(r:pE G H ds xs):Rep G H (.tup ds) (.ref a):=by unfold Rep;exact⟨a,xs,rfl,h,r⟩
theorem wY(h:H a=some (.lst xs))(r:pE G H ds xs):Rep G H (.lst ds) (.ref a):=by unfold Rep;exact⟨a,xs,rfl,h,r⟩
theorem rS(i:Int):Rep G H (.int i) (.int i):=by unfold Rep;rfl
theorem sk(i:Bool):Rep G H (.bl i) (.bl i):=by unfold Rep;rfl
theorem uJ(i:Str):Rep G H (.str i) (.str i):=by unfold Rep;rfl
theorem uK:Rep G H .non .non:=by unfold Rep;rfl
end
inductive Sl where
 |un
 |im (d:D)
 |ls (ds:List D)
 |pm (ds:List D)
 |dk (ks:List Key) (ds:List D)
 |ob (c:Nat) (ns:List Str) (ds:List D)
def Sl.own:Sl->Bool
 |.ls _=>true
 |.pm _=>true
 |.dk _ _=>true
 |.ob _ _ _=>true
 |_=>false
structure Fr where
 B0:Hp
 B:Hp
 A:List Addr
def Dp(G:Bg)(F:Fr)(H0 H:Hp)(o:Option V):Sl->Prop
 |.un=>True
 |.im d=>∃v,o=some v/\Rep G H0 d v
 |.ls ds=>∃a xs,o=some (.ref a)/\H a=some (.lst xs)/\H0 a=none/\F.B a=none/\pE G H0 ds xs
 |.pm ds=>∃a xs,o=some (.ref a)/\H a=some (.lst xs)/\H0 a=none/\a∈F.A/\pE G H0 ds xs
 |.dk ks ds=>∃a xs,o=some (.ref a)/\H a=some (.dK (ks.zip xs))/\H0 a=none/\F.B a=none/\ks.length=xs.length/\pE G H0 ds xs
 |.ob c ns ds=>∃a dx xs,o=some (.ref a)/\H a=some (.ins (G.ca c) dx (ns.zip xs))/\H0 a=none/\a∈F.A/\ns.length=xs.length/\pE G H0 ds xs
structure pV(G:Bg)(F:Fr)(σ:St)(ρ:List Sl)(H0 H:Hp):Prop where
 sub:pL H0 H
 g0:pL F.B0 H0
 keep:∀b o,F.B b=some o->b∉F.A->H b=some o
 fr:∀b o,H0 b=some o->F.B0 b=some o\/F.B b=none
 am:∀a∈F.A,∃o,H a=some o
 len:σ.length=ρ.length
 sl:∀(i:Nat) (s:Sl),ρ[i]?=some s->Dp G F H0 H (σ[i]?).join s
 ap:∀(i j:Nat) (s t:Sl) (a:Addr),i≠j->ρ[i]?=some s->ρ[j]?=some t->s.own=true->t.own=true->(σ[i]?).join=some (.ref a)->(σ[j]?).join=some (.ref a)->False
variable{G:Bg}{F:Fr}{H0:Hp}
theorem Dp.at{H:Hp}{o:Option V}{s:Sl}(h:Dp G F H0 H o s)(e:s.own=true):∃a u,o=some (.ref a)/\H a=some u/\H0 a=none/\(F.B a=none\/a∈F.A):=by
 cases s with
 |un=>cases e
 |im d=>cases e
 |ls ds=>obtain⟨a,xs,h1,h2,h3,h4,_⟩:=h;exact⟨a,_,h1,h2,h3,.inl h4⟩
 |pm ds=>obtain⟨a,xs,h1,h2,h3,h4,_⟩:=h;exact⟨a,_,h1,h2,h3,.inr h4⟩
 |dk ks ds=>obtain⟨a,xs,h1,h2,h3,h4,_⟩:=h;exact⟨a,_,h1,h2,h3,.inl h4⟩
 |ob c ns ds=>obtain⟨a,dx,xs,h1,h2,h3,h4,_⟩:=h;exact⟨a,_,h1,h2,h3,.inr h4⟩
variable{H0':Hp}
theorem Dp.grow{H:Hp}{o:Option V}{s:Sl}(h:Dp G F H0 H o s)(h0:pL H0 H0')(hk:∀a u,o=some (.ref a)->s.own=true->H a=some u->H' a=some u)
  (hn:∀a u,o=some (.ref a)->s.own=true->H a=some u->H0 a=none->H0' a=none):Dp G F H0' H' o s:=by
 cases s with
 |un=>trivial
 |im d=>obtain⟨v,h1,h2⟩:=h;exact⟨v,h1,Rep.mono h0 _ _ h2⟩
 |ls ds=>obtain⟨a,xs,h1,h2,h3,h4,h5⟩:=h;exact⟨a,xs,h1,hk _ _ h1 rfl h2,hn _ _ h1 rfl h2 h3,h4,pE.mono h0 _ _ h5⟩
 |pm ds=>obtain⟨a,xs,h1,h2,h3,h4,h5⟩:=h;exact⟨a,xs,h1,hk _ _ h1 rfl h2,hn _ _ h1 rfl h2 h3,h4,pE.mono h0 _ _ h5⟩
 |dk ks ds=>obtain⟨a,xs,h1,h2,h3,h4,h5,h6⟩:=h;exact⟨a,xs,h1,hk _ _ h1 rfl h2,hn _ _ h1 rfl h2 h3,h4,h5,pE.mono h0 _ _ h6⟩
 |ob c ns ds=>obtain⟨a,dx,xs,h1,h2,h3,h4,h5,h6⟩:=h;exact⟨a,dx,xs,h1,hk _ _ h1 rfl h2,hn _ _ h1 rfl h2 h3,h4,h5,pE.mono h0 _ _ h6⟩
variable{p:Addr}{i j:Nat}
section
variable{G:Bg}{F:Fr}{σ:St}{ρ:List Sl}{H0 H H0' H':Hp}
theorem pV.bNone(R:pV G F σ ρ H0 H){b:Addr}(h:H b=none):F.B b=none:=by
 cases e:F.B b with
 |none=>rfl
 |some o=>
  by_cases ha:b∈F.A
  ·obtain⟨xs,q⟩:=R.am b ha;rw[q]at h;cases h
  ·have q:=R.keep b o e ha;rw[q]at h;cases h
theorem pV.grow(R:pV G F σ ρ H0 H)(hs:pL H H')(h0:pL H0 H0')(sub':pL H0' H')(hf:∀b o,H0' b=some o->H0 b=some o\/H b=none):pV G F σ ρ H0' H' where
 sub:=sub'
 g0:=R.g0.trans h0
 keep:=λb o e n=>hs _ _ (R.keep b o e n)
 fr:=λb o e=>by
  rcases hf b o e with q|q
  ·exact R.fr b o q
  ·exact .inr (R.bNone q)
 am:=λa ha=>let ⟨xs,q⟩:=R.am a ha;⟨xs,hs _ _ q⟩
 len:=R.len
 sl:=λi s e=>(R.sl i s e).grow h0 (λa u _ _ q=>hs _ _ q) λa u _ _ q q0=>by
  cases z:H0' a with
  |none=>rfl
  |some o=>
   rcases hf a o z with y|y
   ·rw[y]at q0;cases q0
   ·rw[y]at q;cases q
 ap:=R.ap
theorem pX{H:Hp}(hp:H p=none)(o:HO):pL H (upd H p o):=pL.new (pL.refl H) hp o
theorem pV.h0none(R:pV G F σ ρ H0 H)(hp:H p=none):H0 p=none:=by
 cases e:H0 p with
 |none=>rfl
 |some o=>have:=R.sub _ _ e;rw[this]at hp;cases hp
theorem KZ{H0 H:Hp}(s:pL H0 H)(p:Addr)(o:HO):pL (upd H0 p o) (upd H p o):=λb u e=>by
 by_cases hb:b=p
 ·subst hb;rw[pK]at e ⊢;exact e
 ·rw[pM hb]at e ⊢;exact s _ _ e
theorem pV.newIm(R:pV G F σ ρ H0 H)(hp:H p=none)(o:HO):pV G F σ ρ (upd H0 p o) (upd H p o):=
 R.grow (pX hp o) (pX (R.h0none hp) o) (KZ R.sub p o) λb u e=>by
  by_cases hb:b=p
  ·subst hb;exact .inr hp
  ·rw[pM hb]at e;exact .inl e
theorem pV.newOwn(R:pV G F σ ρ H0 H)(hp:H p=none)(o:HO):pV G F σ ρ H0 (upd H p o):=
 R.grow (pX hp o) (pL.refl _) (λb u e=>by rw[pM (sh (R.sub _ _ e) hp)];exact R.sub _ _ e) λb u e=>.inl e
def Apart(σ:St)(ρ:List Sl)(p:Addr):Prop:=∀(i:Nat) (s:Sl),ρ[i]?=some s->s.own=true->(σ[i]?).join≠some (.ref p)
theorem pV.apart(R:pV G F σ ρ H0 H)(hp:H p=none):Apart σ ρ p:=λi s e so z=>by obtain⟨a,u,h1,h2,_⟩:=(R.sl i s e).at so;rw[z]at h1;cases h1;rw[hp]at h2;cases h2
theorem pV.freeze(R:pV G F σ ρ H0 H){o:HO}(hp:H p=some o)(h0:H0 p=none)(hb:F.B p=none)(ap:Apart σ ρ p):pV G F σ ρ (upd H0 p o) H where
 sub:=λb u e=>by
  by_cases hb:b=p
  ·subst hb;rw[pK]at e;cases e;exact hp
  ·rw[pM hb]at e;exact R.sub _ _ e
 g0:=R.g0.trans (pX h0 o)
 keep:=R.keep
 fr:=λb u e=>by
  by_cases hb':b=p
  ·subst hb';exact .inr hb
  ·rw[pM hb']at e;exact R.fr _ _ e
 am:=R.am
 len:=R.len
 sl:=λi s e=>(R.sl i s e).grow (pX h0 o) (λa u _ _ q=>q) λa u z so q q0=>by rw[pM (λy=>ap i s e so (by rw[z,y]))];exact q0
 ap:=R.ap
theorem FD{σ:St}{v:Option V}(hi:i<σ.length):((σ.set i v)[j]?).join=if j=i then v else (σ[j]?).join:=by
 rw[bC];by_cases h:i=j
 ·subst h;simp[hi]
 ·rw[aj h,aj (λz=>h z.symm)]
theorem pV.set(R:pV G F σ ρ H0 H){v:V}{s:Sl}(hs:Dp G F H0 H (some v) s)(ap:s.own=true->∀a,v=.ref a->∀(j:Nat) (t:Sl),j≠i->ρ[j]?=some t->t.own=true->(σ[j]?).join≠some (.ref a)):
  pV G F (σ.set i (some v)) (ρ.set i s) H0 H where
 sub:=R.sub
 g0:=R.g0
 keep:=R.keep
 fr:=R.fr
 am:=R.am
 len:=by rw[dc,dc,R.len]
 sl:=λj t e=>by
  rw[bC]at e;by_cases h:i=j
  ·subst h;rw[ah rfl]at e;split at e
   ·rename_i hi;cases e;rw[FD (by rw[R.len];exact hi),ah rfl];exact hs
   ·cases e
  ·rw[aj h]at e;have hh:=R.sl j t e;rw[bC,aj h];exact hh
 ap:=λj k t u a hjk ej ek tj tk vj vk=>by
  have gen:∀{m:Nat} {x:Sl},(ρ.set i s)[m]?=some x->m≠i->ρ[m]?=some x/\((σ.set i (some v))[m]?).join=(σ[m]?).join:=λ{m x} e hm=>by rw[bC,aj (λz=>hm z.symm)]at e;exact⟨e,by rw[bC,aj (λz=>hm z.symm)]⟩
  have self:∀{x:Sl},(ρ.set i s)[i]?=some x->x=s/\((σ.set i (some v))[i]?).join=some v:=λ{x} e=>by
   rw[bC,ah rfl]at e;split at e
   ·rename_i hi;cases e;exact⟨rfl,by rw[FD (by rw[R.len];exact hi),ah rfl]⟩
   ·cases e
  by_cases hj:j=i
  ·subst hj;obtain⟨rfl,ev⟩:=self ej;rw[ev]at vj;cases vj;obtain⟨e2,e3⟩:=gen ek (λz=>hjk z.symm);rw[e3]at vk;exact ap tj a rfl k u (λz=>hjk z.symm) e2 tk vk
  ·obtain⟨e2,e3⟩:=gen ej hj;by_cases hk:k=i
   ·subst hk;obtain⟨rfl,ev⟩:=self ek;rw[ev]at vk;cases vk;rw[e3]at vj;exact ap tk a rfl j t hj e2 tj vj
   ·obtain⟨e4,e5⟩:=gen ek hk;rw[e3]at vj;rw[e5]at vk;exact R.ap j k t u a hjk e2 e4 tj tk vj vk
theorem pV.setIm(R:pV G F σ ρ H0 H)(i:Nat){v:V}(h:Rep G H0 d v):pV G F (σ.set i (some v)) (ρ.set i (.im d)) H0 H:=R.set ⟨v,rfl,h⟩ λz=>by cases z
theorem pV.setLs(R:pV G F σ ρ H0 H)(i:Nat)(hp:H p=some (.lst xs))(h0:H0 p=none)(hb:F.B p=none)(ap:Apart σ ρ p)(h:pE G H0 ds xs):pV G F (σ.set i (some (.ref p))) (ρ.set i (.ls ds)) H0 H:=
 R.set ⟨p,xs,rfl,hp,h0,hb,h⟩ λ_ a e j t _ ej tj=>by cases e;exact ap j t ej tj
theorem pV.mut(R:pV G F σ ρ H0 H){s s':Sl}{o:HO}(hi:ρ[i]?=some s)(so:s.own=true)(ha:(σ[i]?).join=some (.ref a))(ok:∀H',H' a=some o->Dp G F H0 H' (some (.ref a)) s')
  (so':s'.own=true):pV G F σ (ρ.set i s') H0 (upd H a o):=by
 obtain⟨a',u,e1,e2,e3,e4⟩:=(R.sl i s hi).at so;rw[ha]at e1;cases e1;exact {
  sub:=λb w e=>by rw[pM (λz=>by rw[z,e3]at e;cases e)];exact R.sub _ _ e
  g0:=R.g0
  keep:=λb w e n=>by
   have nb:b≠a:=λz=>by
    subst z;rcases e4 with q|q
    ·rw[q]at e;cases e
    ·exact n q
   rw[pM nb];exact R.keep b w e n
  fr:=R.fr
  am:=λb hb=>by
   by_cases z:b=a
   ·subst z;exact⟨o,pK⟩
   ·rw[pM z];exact R.am b hb
  len:=by rw[dc];exact R.len
  sl:=λj t e=>by
   rw[bC]at e;by_cases h:i=j
   ·subst h;rw[ah rfl]at e;split at e
    ·cases e;rw[ha];exact ok _ pK
    ·cases e
   ·rw[aj h]at e;refine(R.sl j t e).grow (pL.refl _) (λb w z to q=>?_) λb w _ _ _ q=>q;rw[pM (λy=>by subst y;exact R.ap j i t s b (λy=>h y.symm) e hi to so z ha)];exact q
  ap:=λj k t u b hjk ej ek tj tk vj vk=>by
   have gen:∀{m:Nat} {x:Sl},(ρ.set i s')[m]?=some x->∃y,ρ[m]?=some y/\(x.own=true->y.own=true):=λ{m x} e=>by
    rw[bC]at e;by_cases h:i=m
    ·subst h;exact⟨s,hi,λ_=>so⟩
    ·rw[aj h]at e;exact⟨x,e,λq=>q⟩
   obtain⟨y,ey,oy⟩:=gen ej;obtain⟨z,ez,oz⟩:=gen ek;exact R.ap j k y z b hjk ey ez (oy tj) (oz tk) vj vk }
end
abbrev FE:=List Sl->Option (D×List Sl)
abbrev FT:=List Sl->Option (Bool×List Sl)
abbrev FA:=List Sl->Option (List D×List Sl)
def tF(G:Bg)(f:FE):TE:=λσ H Q=>∃F ρ H0 d ρ',pV G F σ ρ H0 H/\f ρ=some (d,ρ')/\∀v H0' H',pL H0 H0'->pV G F σ ρ' H0' H'->Rep G H0' d v->Q v H'
def tFT(G:Bg)(f:FT):TT:=λσ H Q=>∃F ρ H0 d ρ',pV G F σ ρ H0 H/\f ρ=some (d,ρ')/\∀H0' H',pL H0 H0'->pV G F σ ρ' H0' H'->Q d H'
def tFA(G:Bg)(f:FA):TA:=λσ H Q=>∃F ρ H0 ds ρ',pV G F σ ρ H0 H/\f ρ=some (ds,ρ')/\∀xs H0' H',pL H0 H0'->pV G F σ ρ' H0' H'->pE G H0' ds xs->Q xs H'
def tFN(G:Bg)(f:FA):TE:=λσ H Q=>∃F ρ H0 ds ρ',pV G F σ ρ H0 H/\f ρ=some (ds,ρ')/\∀p xs H0' H',pL H0 H0'->pV G F σ ρ' H0' H'->H' p=some (.lst xs)->H0' p=none->F.B p=none->Apart σ ρ' p->pE G H0' ds xs->Q (.ref p) H'
variable{X:Cx}{e:Expr}
theorem PE.weak{t t':TE}(h:PE X e t)(w:∀σ H Q,t' σ H Q->t σ H Q):PE X e t':=λpins s σ H Q I hq=>h pins s σ H Q I (w _ _ _ hq)
theorem PT.weak{t t':TT}(h:PT X e t)(w:∀σ H Q,t' σ H Q->t σ H Q):PT X e t':=λpins s σ H Q I hq=>h pins s σ H Q I (w _ _ _ hq)
theorem PW.weak{t t':TT}(h:PW X e t)(w:∀σ H Q,t' σ H Q->t σ H Q):PW X e t':=λwh pins s σ H Q I hq=>h wh pins s σ H Q I (w _ _ _ hq)
theorem PA.weak{e:List Expr}{t t':TA}(h:PA X e t)(w:∀σ H Q,t' σ H Q->t σ H Q):PA X e t':=λpos pins s σ H Q I hq=>h pos pins s σ H Q I (w _ _ _ hq)
noncomputable def cC(d:D):FE:=λρ=>some (d,ρ)
noncomputable def cV(i:Nat):FE:=λρ=>match ρ[i]? with
 |some (.im d)=>some (d,ρ)
 |_=>none
noncomputable def c1(g:D->Option D) (f:FE):FE:=λρ=>match f ρ with
 |some (d,ρ')=>match g d with
  |some x=>some (x,ρ')
  |none=>none
 |none=>none
noncomputable def c2(g:D->D->Option D) (f f':FE):FE:=λρ=>match f ρ with
 |some (x,ρ1)=>match f' ρ1 with
  |some (y,ρ2)=>match g x y with
   |some z=>some (z,ρ2)
   |none=>none
  |none=>none
 |none=>none
variable{f:FE}{ρ ρ':List Sl}{z:D}
theorem zK{g:D->Option D}(h:c1 g f ρ=some (z,ρ')):∃d,f ρ=some (d,ρ')/\g d=some z:=by
 unfold c1 at h;cases e:f ρ with
 |none=>rw[e]at h;cases h
 |some p=>
  obtain⟨d,ρ1⟩:=p;rw[e]at h;cases e2:g d with
  |none=>simp only[e2]at h;cases h
  |some x=>simp only[e2]at h;cases h;exact⟨d,rfl,e2⟩
variable{f':FE}
theorem BG{g:D->D->Option D}(h:c2 g f f' ρ=some (z,ρ')):∃x y ρ1,f ρ=some (x,ρ1)/\f' ρ1=some (y,ρ')/\g x y=some z:=by
 unfold c2 at h;cases e:f ρ with
 |none=>rw[e]at h;cases h
 |some p=>
  obtain⟨x,ρ1⟩:=p;simp only[e]at h;cases e2:f' ρ1 with
  |none=>simp only[e2]at h;cases h
  |some q=>
   obtain⟨y,ρ2⟩:=q;simp only[e2]at h;cases e3:g x y with
   |none=>simp only[e3]at h;cases h
   |some w=>simp only[e3]at h;cases h;exact⟨x,y,ρ1,rfl,e2,e3⟩
variable{b:Expr}{pos:Pos}{op:eE}
section
variable{X:Cx}{G:Bg}
theorem QI{i j pos}:PE X (.Constant (.int i) j pos) (tF G (cC (.int i))):=PE.weak Et λσ H Q h=>by obtain⟨F,ρ,H0,d,ρ',R,e,k⟩:=h;cases e;exact k _ _ _ (pL.refl _) R (rS i)
theorem UB{i j pos}:PE X (.Constant (.bool i) j pos) (tF G (cC (.bl i))):=PE.weak TZ λσ H Q h=>by obtain⟨F,ρ,H0,d,ρ',R,e,k⟩:=h;cases e;exact k _ _ _ (pL.refl _) R (sk i)
theorem QJ{i j pos}:PE X (.Constant (.str i) j pos) (tF G (cC (.str i))):=PE.weak P2 λσ H Q h=>by obtain⟨F,ρ,H0,d,ρ',R,e,k⟩:=h;cases e;exact k _ _ _ (pL.refl _) R (uJ i)
theorem QK{j pos}:PE X (.Constant .none j pos) (tF G (cC .non)):=PE.weak P1 λσ H Q h=>by obtain⟨F,ρ,H0,d,ρ',R,e,k⟩:=h;cases e;exact k _ _ _ (pL.refl _) R uK
theorem NS(h:cV i ρ=some (d,ρ')):ρ[i]?=some (.im d)/\ρ'=ρ:=by
 unfold cV at h;split at h
 ·rename_i e;cases h;exact⟨e,rfl⟩
 ·cases h
theorem tK{α:Type}{o:Option (Option α)}{v:α}(h:o.join=some v):o=some (some v):=by
 cases o with
 |none=>cases h
 |some u=>cases u with
  |none=>cases h
  |some w=>cases h;rfl
theorem G0(h:PE X e (wy i)):PE X e (tF G (cV i)):=PE.weak h λσ H Q hh=>by obtain⟨F,ρ,H0,d,ρ',R,e,k⟩:=hh;obtain⟨e1,rfl⟩:=NS e;obtain⟨v,e2,e3⟩:=R.sl i _ e1;exact⟨v,tK e2,k _ _ _ (pL.refl _) R e3⟩
theorem NT{v:V}(h:PE X e (tC v))(r:∀H,Rep G H d v):PE X e (tF G (cC d)):=PE.weak h λσ H Q hh=>by obtain⟨F,ρ,H0,d',ρ',R,e,k⟩:=hh;cases e;exact k _ _ _ (pL.refl _) R (r _)
def OpD(G:Bg)(r:R2)(g:D->D->Option D):Prop:=∀x y z H0 H v u (Q:VK),g x y=some z->pL H0 H->Rep G H0 x v->Rep G H0 y u->(∀w,(∀H0',pL H0 H0'->Rep G H0' z w)->Q w H)->r v u H Q
theorem Il{r:R2}{g:D->D->Option D}(ho:OpD G r g):∀σ H Q,tF G (c2 g f f') σ H Q->tOp r (tF G f) (tF G f') σ H Q:=λσ H Q hh=>by obtain⟨F,ρ,H0,d,ρ',R,e,k⟩:=hh;obtain⟨x,y,ρ1,e1,e2,e3⟩:=BG e;refine⟨F,ρ,H0,x,ρ1,R,e1,λv H1 H1' s1 R1 r1=>⟨F,ρ1,H1,y,ρ',R1,e2,λu H2 H2' s2 R2 r2=>?_⟩⟩;exact ho x y d H2 H2' v u Q e3 R2.sub (Rep.mono s2 _ _ r1) r2 λw hw=>k w H2 H2' (s1.trans s2) R2 (hw _ (pL.refl _))
theorem UC{a:Expr}{op:il}{r:R2}{g:D->D->Option D}(hr:OpR X (bO op) r)(ho:OpD G r g)(ha:PE X a (tF G f))(hb:PE X b (tF G f')):PE X (.BinOp a op b pos) (tF G (c2 g f f')):=PE.weak (HU hr ha hb) (Il ho)
theorem QL{a:Expr}{r:R2}{g:D->D->Option D}(hr:OpR X (aV op) r)(ho:OpD G r g)(ha:PE X a (tF G f))(hb:PE X b (tF G f'))(hm:dZ op b=false):PE X (.Compare a [op] [b] pos) (tF G (c2 g f f')):=PE.weak (Nv hr ha hb hm) (Il ho)
theorem UD{a:Expr}{r:R2}{g:D->D->Option D}(hr:IxR X r)(ho:OpD G r g)(ha:PE X a (tF G f))(hb:PE X b (tF G f'))(hs:Ig b):PE X (.Subscript a b pos) (tF G (c2 g f f')):=PE.weak (Pn hr ha hb hs) (Il ho)
def cT(f:FE):FT:=λρ=>match f ρ with
 |some (.bl b,ρ')=>some (b,ρ')
 |_=>none
theorem Im{b:Bool}(h:cT f ρ=some (b,ρ')):f ρ=some (.bl b,ρ'):=by
 unfold cT at h;split at h
 ·rename_i e;cases h;exact e
 ·cases h
theorem Io:∀σ H Q,tFT G (cT f) σ H Q->Ku (tF G f) σ H Q:=λσ H Q hh=>by obtain⟨F,ρ,H0,d,ρ',R,e,k⟩:=hh;refine⟨F,ρ,H0,_,ρ',R,Im e,λv H0' H' s R' r=>?_⟩;unfold Rep at r;exact⟨d,r,k _ _ s R'⟩
theorem NU{a:Expr}{r:R2}{g:D->D->Option D}(hr:OpR X (aV op) r)(ho:OpD G r g)(ha:PE X a (tF G f))(hb:PE X b (tF G f'))(hm:dZ op b=false):
  PT X (.Compare a [op] [b] pos) (tFT G (cT (c2 g f f'))):=PT.weak (Nw hr ha hb hm) λσ H Q hh=>by
 obtain⟨F,ρ,H0,d,ρ',R,e,k⟩:=Io σ H Q hh;exact Il ho σ H _ ⟨F,ρ,H0,d,ρ',R,e,k⟩
theorem NV(h:PE X e (tF G f))(he:∀whole,isTrue e X.env whole=(do let v<-whole;standAt e.pos;holding [v] (truthy v)):=by intro _;rfl):PT X e (tFT G (cT f)):=PT.weak (P3 h he) λσ H Q hh=>by obtain⟨F,ρ,H0,d,ρ',R,e,k⟩:=hh;refine⟨F,ρ,H0,_,ρ',R,Im e,λv H0' H' s R' r=>?_⟩;unfold Rep at r;exact⟨d,r,k _ _ s R'⟩
def rO(f:FT):FT:=λρ=>match f ρ with
 |some (b,ρ')=>some (!b,ρ')
 |none=>none
def tZ(f g:FT):FT:=λρ=>match f ρ with
 |some (true,ρ')=>g ρ'
 |r=>r
def tL(f g:FT):FT:=λρ=>match f ρ with
 |some (false,ρ')=>g ρ'
 |r=>r
theorem NW{a:Expr}{f:FT}(h:PT X a (tFT G f)):PT X (.UnaryOp .Not a pos) (tFT G (rO f)):=PT.weak (P6 h) λσ H Q hh=>by
 obtain⟨F,ρ,H0,d,ρ',R,e,k⟩:=hh;unfold rO at e;cases e1:f ρ with
 |none=>simp only[e1]at e;cases e
 |some p=>obtain⟨b,ρ1⟩:=p;simp only[e1]at e;cases e;exact⟨F,ρ,H0,b,_,R,e1,λH0' H' s R'=>k _ _ s R'⟩
theorem QM{f g:FT}:∀σ H Q,tFT G (tZ f g) σ H Q->T2 (tFT G f) (tFT G g) σ H Q:=λσ H Q hh=>by
 obtain⟨F,ρ,H0,d,ρ',R,e,k⟩:=hh;unfold tZ at e;cases e1:f ρ with
 |none=>simp only[e1]at e;cases e
 |some p=>
  obtain⟨b,ρ1⟩:=p;cases b with
  |true=>simp only[e1]at e;exact⟨F,ρ,H0,true,ρ1,R,e1,λH0' H' s R'=>Fu ⟨F,ρ1,H0',d,ρ',R',e,λH2 H2' s2 R2=>k _ _ (s.trans s2) R2⟩⟩
  |false=>simp only[e1]at e;cases e;exact⟨F,ρ,H0,false,_,R,e1,λH0' H' s R'=>Ft (k _ _ s R')⟩
theorem UE{f g:FT}:∀σ H Q,tFT G (tL f g) σ H Q->tOr (tFT G f) (tFT G g) σ H Q:=λσ H Q hh=>by
 obtain⟨F,ρ,H0,d,ρ',R,e,k⟩:=hh;unfold tL at e;cases e1:f ρ with
 |none=>simp only[e1]at e;cases e
 |some p=>
  obtain⟨b,ρ1⟩:=p;cases b with
  |false=>simp only[e1]at e;exact⟨F,ρ,H0,false,ρ1,R,e1,λH0' H' s R'=>Ft ⟨F,ρ1,H0',d,ρ',R',e,λH2 H2' s2 R2=>k _ _ (s.trans s2) R2⟩⟩
  |true=>simp only[e1]at e;cases e;exact⟨F,ρ,H0,true,_,R,e1,λH0' H' s R'=>Fu (k _ _ s R')⟩
theorem K0{a:Expr}{f:FT}(h:PT X a (tFT G f)):PW X (.BoolOp .And [a] pos) (tFT G f):=Nj h
theorem NX{a:Expr}{f:FT}(h:PT X a (tFT G f)):PW X (.BoolOp .Or [a] pos) (tFT G f):=P4 h
theorem NY{a:Expr}{rest:List Expr}{f g:FT}(ha:PT X a (tFT G f))(hb:PW X (.BoolOp .And (b::rest) pos) (tFT G g)):PW X (.BoolOp .And (a::b::rest) pos) (tFT G (tZ f g)):=PW.weak (P5 ha hb) QM
theorem K1{a:Expr}{rest:List Expr}{f g:FT}(ha:PT X a (tFT G f))(hb:PW X (.BoolOp .Or (b::rest) pos) (tFT G g)):PW X (.BoolOp .Or (a::b::rest) pos) (tFT G (tL f g)):=PW.weak (T4 ha hb) UE
def q8(f g:FE):FE:=λρ=>match f ρ with
 |some (.bl true,ρ')=>g ρ'
 |some (.bl false,ρ')=>some (.bl false,ρ')
 |_=>none
def cOr(f g:FE):FE:=λρ=>match f ρ with
 |some (.bl false,ρ')=>g ρ'
 |some (.bl true,ρ')=>some (.bl true,ρ')
 |_=>none
def zg(f:FE):FE:=λρ=>match f ρ with
 |some (.bl b,ρ')=>some (.bl !b,ρ')
 |_=>none
def cIf(c:FT)(f g:FE):FE:=λρ=>match c ρ with
 |some (true,ρ')=>f ρ'
 |some (false,ρ')=>g ρ'
 |none=>none
theorem QN{a:Expr}{op}(h:PE X a (tF G f)):PE X (.BoolOp op [a] pos) (tF G f):=P7 h
theorem FH:(∃ρ1,f ρ=some (.bl true,ρ1))\/(∃ρ1,f ρ=some (.bl false,ρ1))\/(∀b ρ1,f ρ≠some (.bl b,ρ1)):=by
 by_cases h1:∃ρ1,f ρ=some (.bl true,ρ1)
 ·exact .inl h1
 by_cases h2:∃ρ1,f ρ=some (.bl false,ρ1)
 ·exact .inr (.inl h2)
 refine .inr (.inr λb ρ1 z=>?_);cases b with
 |true=>exact h1 ⟨ρ1,z⟩
 |false=>exact h2 ⟨ρ1,z⟩
theorem JI{g:FE}(h:∀b ρ1,f ρ≠some (.bl b,ρ1)):q8 f g ρ=none:=by
 unfold q8;split
 ·rename_i e;exact ao e (h _ _)
 ·rename_i e;exact ao e (h _ _)
 ·rfl
theorem K2{g:FE}(h:∀b ρ1,f ρ≠some (.bl b,ρ1)):cOr f g ρ=none:=by
 unfold cOr;split
 ·rename_i e;exact ao e (h _ _)
 ·rename_i e;exact ao e (h _ _)
 ·rfl
theorem QO{a:Expr}{rest:List Expr}{g:FE}(ha:PE X a (tF G f))(hb:PE X (.BoolOp .And (b::rest) pos) (tF G g)):PE X (.BoolOp .And (a::b::rest) pos) (tF G (q8 f g)):=PE.weak (P8 ha hb) λσ H Q hh=>by
 obtain⟨F,ρ,H0,d,ρ',R,e,k⟩:=hh;rcases FH (f:=f) (ρ:=ρ)with ⟨ρ1,e1⟩|⟨ρ1,e1⟩|e1
 ·have e':g ρ1=some (d,ρ'):=by unfold q8 at e;simp only[e1]at e;exact e
  refine⟨F,ρ,H0,_,ρ1,R,e1,λv H1 H1' s R' r=>?_⟩;unfold Rep at r;refine⟨true,r,?_⟩;exact Fu ⟨F,ρ1,H1,d,ρ',R',e',λv H2 H2' s2 R2 r2=>k _ _ _ (s.trans s2) R2 r2⟩
 ·have e':some (D.bl false,ρ1)=some (d,ρ'):=by unfold q8 at e;simp only[e1]at e;exact e
  cases e';refine⟨F,ρ,H0,_,_,R,e1,λv H1 H1' s R' r=>?_⟩;have r':=r;unfold Rep at r';refine⟨false,r',?_⟩;exact Ft (k _ _ _ s R' (sk false))
 ·rw[JI e1]at e;cases e
theorem UF{a:Expr}{rest:List Expr}{g:FE}(ha:PE X a (tF G f))(hb:PE X (.BoolOp .Or (b::rest) pos) (tF G g)):PE X (.BoolOp .Or (a::b::rest) pos) (tF G (cOr f g)):=PE.weak (T7 ha hb) λσ H Q hh=>by
 obtain⟨F,ρ,H0,d,ρ',R,e,k⟩:=hh;rcases FH (f:=f) (ρ:=ρ)with ⟨ρ1,e1⟩|⟨ρ1,e1⟩|e1
 ·have e':some (D.bl true,ρ1)=some (d,ρ'):=by unfold cOr at e;simp only[e1]at e;exact e
  cases e';refine⟨F,ρ,H0,_,_,R,e1,λv H1 H1' s R' r=>?_⟩;unfold Rep at r;refine⟨true,r,?_⟩;exact Fu (k _ _ _ s R' (sk true))
 ·have e':g ρ1=some (d,ρ'):=by unfold cOr at e;simp only[e1]at e;exact e
  refine⟨F,ρ,H0,_,ρ1,R,e1,λv H1 H1' s R' r=>?_⟩;unfold Rep at r;refine⟨false,r,?_⟩;exact Ft ⟨F,ρ1,H1,d,ρ',R',e',λv H2 H2' s2 R2 r2=>k _ _ _ (s.trans s2) R2 r2⟩
 ·rw[K2 e1]at e;cases e
theorem QP{a:Expr}(ha:PE X a (tF G f)):PE X (.UnaryOp .Not a pos) (tF G (zg f)):=PE.weak (P9 ha) λσ H Q hh=>by
 obtain⟨F,ρ,H0,d,ρ',R,e,k⟩:=hh;unfold zg at e;split at e
 ·rename_i b ρ1 e1;cases e;refine⟨F,ρ,H0,_,_,R,e1,λv H1 H1' s R' r=>?_⟩;unfold Rep at r;exact⟨b,r,k _ _ _ s R' (sk _)⟩
 ·cases e
theorem UG{c a:Expr}{h:FT}{g:FE}(hc:PT X c (tFT G h))(ha:PE X a (tF G f))(hb:PE X b (tF G g)):PE X (.IfExp c a b pos) (tF G (cIf h f g)):=PE.weak (Km hc ha hb) λσ H Q hh=>by
 obtain⟨F,ρ,H0,d,ρ',R,e,k⟩:=hh;unfold cIf at e;cases e1:h ρ with
 |none=>simp only[e1]at e;cases e
 |some p=>
  obtain⟨b,ρ1⟩:=p;refine⟨F,ρ,H0,b,ρ1,R,e1,λH1 H1' s R'=>?_⟩;cases b with
  |true=>simp only[e1]at e;exact Fu ⟨F,ρ1,H1,d,ρ',R',e,λv H2 H2' s2 R2 r2=>k _ _ _ (s.trans s2) R2 r2⟩
  |false=>simp only[e1]at e;exact Ft ⟨F,ρ1,H1,d,ρ',R',e,λv H2 H2' s2 R2 r2=>k _ _ _ (s.trans s2) R2 r2⟩
noncomputable def qe:FA:=λρ=>some ([],ρ)
noncomputable def aCons(f:FE) (g:FA):FA:=λρ=>match f ρ with
 |some (d,ρ1)=>match g ρ1 with
  |some (ds,ρ2)=>some (d::ds,ρ2)
  |none=>none
 |none=>none
theorem G1{g:FA}(h:aCons f g ρ=some (ds,ρ')):∃d r ρ1,f ρ=some (d,ρ1)/\g ρ1=some (r,ρ')/\ds=d::r:=by
 unfold aCons at h;cases e:f ρ with
 |none=>rw[e]at h;cases h
 |some p=>
  obtain⟨x,ρ1⟩:=p;simp only[e]at h;cases e2:g ρ1 with
  |none=>simp only[e2]at h;cases h
  |some q=>obtain⟨y,ρ2⟩:=q;simp only[e2]at h;cases h;exact⟨x,y,ρ1,rfl,e2,rfl⟩
theorem wZ:PA X [] (tFA G qe):=PA.weak uv λσ H Q hh=>by obtain⟨F,ρ,H0,d,ρ',R,e,k⟩:=hh;cases e;exact k _ _ _ (pL.refl _) R qf
theorem uZ{es:List Expr}{g:FA}(ha:PE X e (tF G f))(hr:PA X es (tFA G g))(hs:aw (e::es) X.env=(false,eval e X.env)::aw es X.env:=by rfl):PA X (e::es) (tFA G (aCons f g)):=PA.weak (rj ha hr hs) λσ H Q hh=>by obtain⟨F,ρ,H0,d,ρ',R,e,k⟩:=hh;obtain⟨x,r,ρ1,e1,e2,rfl⟩:=G1 e;exact⟨F,ρ,H0,x,ρ1,R,e1,λv H1 H1' s R' rv=>⟨F,ρ1,H1,r,ρ',R',e2,λxs H2 H2' s2 R2 rs=>k _ _ _ (s.trans s2) R2 (qr (Rep.mono s2 _ _ rv) rs)⟩⟩
def qd(g:FA):FE:=λρ=>match g ρ with
 |some (ds,ρ')=>if ds.length<=1000 then some (.tup ds,ρ')else none
 |none=>none
def pN(g:FA):FA:=λρ=>match g ρ with
 |some (ds,ρ')=>if ds.length<=1000 then some (ds,ρ')else none
 |none=>none
theorem QQ{es:List Expr}{x1}{g:FA}(h:PA X es (tFA G g)):PE X (.Tuple es x1 pos) (tF G (qd g)):=PE.weak (Kz h) λσ H Q hh=>by
 obtain⟨F,ρ,H0,d,ρ',R,e,k⟩:=hh;unfold qd at e;cases e1:g ρ with
 |none=>simp only[e1]at e;cases e
 |some p=>
  obtain⟨ds,ρ1⟩:=p;simp only[e1]at e;split at e
  ·rename_i hl;cases e;refine⟨F,ρ,H0,_,_,R,e1,λxs H1 H1' s R' rs=>⟨by rw[<-pF rs];exact sj hl,λp hp=>?_⟩⟩;exact k _ _ _ (s.trans (pX (R'.h0none hp) _)) (R'.newIm hp _) (BF (SqT.of pK) (pE.mono (pX (R'.h0none hp) _) _ _ rs))
  ·cases e
theorem NZ{es:List Expr}{g:FA}(h:PA X es (tFA G g)):PE X (.List es pos) (tFN G (pN g)):=PE.weak (KA h) λσ H Q hh=>by
 obtain⟨F,ρ,H0,d,ρ',R,e,k⟩:=hh;unfold pN at e;cases e1:g ρ with
 |none=>simp only[e1]at e;cases e
 |some p=>
  obtain⟨ds,ρ1⟩:=p;simp only[e1]at e;split at e
  ·rename_i hl;cases e;refine⟨F,ρ,H0,_,_,R,e1,λxs H1 H1' s R' rs=>⟨by rw[<-pF rs];exact sj hl,λp hp=>?_⟩⟩;exact k _ _ _ _ s (R'.newOwn hp _) pK (R'.h0none hp) (R'.bNone hp) (R'.apart hp) rs
  ·cases e
def cL(g:FA):FE:=λρ=>match g ρ with
 |some (ds,ρ')=>some (.lst ds,ρ')
 |none=>none
theorem N0{g:FA}(h:cL g ρ=some (d,ρ')):∃ds,g ρ=some (ds,ρ')/\d=.lst ds:=by
 unfold cL at h;cases e:g ρ with
 |none=>simp only[e]at h;cases h
 |some p=>obtain⟨ds,ρ1⟩:=p;simp only[e]at h;cases h;exact⟨ds,rfl,rfl⟩
theorem UH{g:FA}:∀σ H Q,tF G (cL g) σ H Q->tFN G g σ H Q:=λσ H Q hh=>by obtain⟨F,ρ,H0,d,ρ',R,e,k⟩:=hh;obtain⟨ds,e1,rfl⟩:=N0 e;refine⟨F,ρ,H0,ds,ρ',R,e1,λp xs H1 H1' s R' hp h0 hb ap rs=>?_⟩;exact k _ _ _ (s.trans (pX h0 _)) (R'.freeze hp h0 hb ap) (wY pK (pE.mono (pX h0 _) _ _ rs))
theorem QR{g:FA}(h:PE X e (tFN G g)):PE X e (tF G (cL g)):=PE.weak h UH
end
inductive Out where
 |nx (ρ:List Sl)|bk (ρ:List Sl)|ct (ρ:List Sl)
 |rt (d:D) (ρ:List Sl)
 |rn (ds:List D) (ρ:List Sl)
abbrev FS:=List Sl->Option Out
def Ip(G:Bg)(F:Fr)(H0:Hp)(E:Ends):Out->Prop
 |.nx ρ'=>∀σ' H0' H',pL H0 H0'->pV G F σ' ρ' H0' H'->E.nx σ' H'
 |.bk ρ'=>∀σ' H0' H',pL H0 H0'->pV G F σ' ρ' H0' H'->E.bk σ' H'
 |.ct ρ'=>∀σ' H0' H',pL H0 H0'->pV G F σ' ρ' H0' H'->E.ct σ' H'
 |.rt d ρ'=>∀v σ' H0' H',pL H0 H0'->pV G F σ' ρ' H0' H'->Rep G H0' d v->E.rt v H'
 |.rn ds ρ'=>∀p xs σ' H0' H',pL H0 H0'->pV G F σ' ρ' H0' H'->H' p=some (.lst xs)->H0' p=none->F.B p=none->Apart σ' ρ' p->pE G H0' ds xs->E.rt (.ref p) H'
def tFS(G:Bg)(f:FS):TS:=λE σ H=>∃F ρ H0 o,pV G F σ ρ H0 H/\f ρ=some o/\Ip G F H0 E o/\(∀p,E.rt p=E.rt p)
variable{H1:Hp}
theorem Ip.back{E:Ends}{o:Out}(h:Ip G F H0 E o)(s:pL H0 H1):Ip G F H1 E o:=by
 cases o with
 |nx ρ=>exact λσ' H0' H' s' R=>h σ' H0' H' (s.trans s') R
 |bk ρ=>exact λσ' H0' H' s' R=>h σ' H0' H' (s.trans s') R
 |ct ρ=>exact λσ' H0' H' s' R=>h σ' H0' H' (s.trans s') R
 |rt d ρ=>exact λv σ' H0' H' s' R=>h v σ' H0' H' (s.trans s') R
 |rn ds ρ=>exact λp xs σ' H0' H' s' R=>h p xs σ' H0' H' (s.trans s') R
theorem PS.weak{e:Stmt}{t t':TS}(h:PS X e t)(w:∀E σ H,t' E σ H->t E σ H):PS X e t':=λpins s σ H D I hq=>h pins s σ H D I (w _ _ _ hq)
theorem PSs.weak{e:List Stmt}{t t':TS}(h:PSs X e t)(w:∀E σ H,t' E σ H->t E σ H):PSs X e t':=λpins s σ H D I hq=>h pins s σ H D I (w _ _ _ hq)
def pQ:FS:=λρ=>some (.nx ρ)
noncomputable def pA(f g:FS):FS:=λρ=>match f ρ with
 |some (.nx ρ')=>g ρ'
 |r=>r
variable{σ:St}{st:Stmt}{tg:Expr}{gs:List D->List Sl->Option (List Sl)}{N:List Str}{vs:List V}{np:Nat}
section
variable{X:Cx}{G:Bg}
theorem QS{E:Ends}{H:Hp}(h:tFS G pQ E σ H):E.nx σ H:=by obtain⟨F,ρ,H0,o,R,e,k,_⟩:=h;cases e;exact k _ _ _ (pL.refl _) R
theorem N1:PSs X [] (tFS G pQ):=PSs.weak Nk λE σ H h=>QS h
theorem K4{rest:List Stmt}{f g:FS}(h1:PS X st (tFS G f))(h2:PSs X rest (tFS G g)):PSs X (st::rest) (tFS G (pA f g)):=PSs.weak (BP h1 h2) λE σ H h=>by
 obtain⟨F,ρ,H0,o,R,e,k,k2⟩:=h;unfold pA at e;cases e1:f ρ with
 |none=>simp only[e1]at e;cases e
 |some o1=>
  cases o1 with
  |nx ρ1=>simp only[e1]at e;exact⟨F,ρ,H0,_,R,e1,λσ' H0' H' s R'=>⟨F,ρ1,H0',o,R',e,k.back s,k2⟩,k2⟩
  |bk ρ1=>simp only[e1]at e;cases e;exact⟨F,ρ,H0,_,R,e1,k,k2⟩
  |ct ρ1=>simp only[e1]at e;cases e;exact⟨F,ρ,H0,_,R,e1,k,k2⟩
  |rt d ρ1=>simp only[e1]at e;cases e;exact⟨F,ρ,H0,_,R,e1,k,k2⟩
  |rn d ρ1=>simp only[e1]at e;cases e;exact⟨F,ρ,H0,_,R,e1,k,k2⟩
theorem N2{f:FS}(h1:PS X st (tFS G f)):PSs X [st] (tFS G f):=Eu h1
noncomputable def pU(f:FE):FS:=λρ=>match f ρ with
 |some (d,ρ')=>some (.rt d ρ')
 |none=>none
noncomputable def qQ(f:FA):FS:=λρ=>match f ρ with
 |some (d,ρ')=>some (.rn d ρ')
 |none=>none
theorem qc{α:Type}{f:List Sl->Option (α×List Sl)}:f ρ=none\/∃d ρ',f ρ=some (d,ρ'):=by
 cases e:f ρ with
 |none=>exact .inl rfl
 |some p=>exact .inr ⟨p.1,p.2,rfl⟩
theorem N3(h:PE X e (tF G f)):PS X (.Return (some e) pos) (tFS G (pU f)):=PS.weak (Gy h) λE σ H hh=>by
 obtain⟨F,ρ,H0,o,R,e,k,k2⟩:=hh;unfold pU at e;rcases qc (f:=f) (ρ:=ρ)with e1|⟨d,ρ',e1⟩<;>simp only[e1]at e
 ·cases e
 ·cases e;exact⟨F,ρ,H0,d,ρ',R,e1,λv H0' H' s R' r=>k _ _ _ _ s R' r⟩
theorem K5{f:FA}(h:PE X e (tFN G f)):PS X (.Return (some e) pos) (tFS G (qQ f)):=PS.weak (Gy h) λE σ H hh=>by
 obtain⟨F,ρ,H0,o,R,e,k,k2⟩:=hh;unfold qQ at e;rcases qc (f:=f) (ρ:=ρ)with e1|⟨d,ρ',e1⟩<;>simp only[e1]at e
 ·cases e
 ·cases e;exact⟨F,ρ,H0,d,ρ',R,e1,λp xs H0' H' s R' h1 h2 h3 h4 h5=>k _ _ _ _ _ s R' h1 h2 h3 h4 h5⟩
noncomputable def qb(f:FE):FS:=λρ=>match f ρ with
 |some (_,ρ')=>some (.nx ρ')
 |none=>none
theorem K6(h:PE X e (tF G f))(hs:cy e none pos.line X.env=pure false:=by rfl):PS X (.Expr e pos) (tFS G (qb f)):=PS.weak (HP h hs) λE σ H hh=>by
 obtain⟨F,ρ,H0,o,R,e,k,k2⟩:=hh;unfold qb at e;rcases qc (f:=f) (ρ:=ρ)with e1|⟨d,ρ',e1⟩<;>simp only[e1]at e
 ·cases e
 ·cases e;exact⟨F,ρ,H0,d,ρ',R,e1,λv H0' H' s R' r=>k _ _ _ s R'⟩
noncomputable def sIf(c:FT) (f g:FS):FS:=λρ=>match c ρ with
 |some (true,ρ')=>f ρ'
 |some (false,ρ')=>g ρ'
 |none=>none
theorem QT{c:Expr}{a b:List Stmt}{h:FT}{f g:FS}(hc:PT X c (tFT G h))(ha:PSs X a (tFS G f))(hb:PSs X b (tFS G g)):PS X (.If c a b pos) (tFS G (sIf h f g)):=PS.weak (Ua hc ha hb) λE σ H hh=>by
 obtain⟨F,ρ,H0,o,R,e,k,k2⟩:=hh;unfold sIf at e;rcases qc (f:=h) (ρ:=ρ)with e1|⟨d,ρ',e1⟩
 ·simp only[e1]at e;cases e
 ·refine⟨F,ρ,H0,d,ρ',R,e1,λH0' H' s R'=>?_⟩;cases d with
  |true=>simp only[e1]at e;exact Fu ⟨F,ρ',H0',o,R',e,k.back s,k2⟩
  |false=>simp only[e1]at e;exact Ft ⟨F,ρ',H0',o,R',e,k.back s,k2⟩
abbrev FG:=D->List Sl->Option (List Sl)
def tFG(G:Bg)(n:Nat)(g:FG):TG:=λv σ H Q=>∃F ρ H0 d ρ',pV G F σ ρ H0 H/\Rep G H0 d v/\g d ρ=some ρ'/\∀σ',σ'.drop n=σ.drop n->pV G F σ' ρ' H0 H->Q σ' H
def JJ(G:Bg)(n:Nat)(g:List D->List Sl->Option (List Sl)):TGs:=λvs σ H Q=>∃F ρ H0 ds ρ',pV G F σ ρ H0 H/\pE G H0 ds vs/\g ds ρ=some ρ'/\∀σ',σ'.drop n=σ.drop n->pV G F σ' ρ' H0 H->Q σ' H
theorem PG.weak{t t':TG}(h:PG X e t)(w:∀v σ H Q,t' v σ H Q->t v σ H Q):PG X e t':=λpins s σ H x u Q I r hq=>h pins s σ H x u Q I r (w _ _ _ _ hq)
theorem PGs.weak{e:List Expr}{t t':TGs}(h:PGs X e t)(w:∀v σ H Q,t' v σ H Q->t v σ H Q):PGs X e t':=λpins s σ H x u Q I r hq=>h pins s σ H x u Q I r (w _ _ _ _ hq)
def gN(i:Nat):FG:=λd ρ=>some (ρ.set i (.im d))
theorem FI{α:Type}{l:List α}{n:Nat}{x:α}(h:i<n):(l.set i x).drop n=l.drop n:=by apply iP;intro j;rw[dt,dt,bC,aj (by omega)]
theorem K7(n:Nat)(h:PG X tg (vE i))(hi:i<n):PG X tg (tFG G n (gN i)):=PG.weak h λv σ H Q hh=>by obtain⟨F,ρ,H0,d,ρ',R,r,e,k⟩:=hh;cases e;exact k _ (FI hi) (R.setIm i r)
def vG:List D->List Sl->Option (List Sl):=λds ρ=>match ds with
 |[]=>some ρ
 |_=>none
def qD(g:FG)(gs:List D->List Sl->Option (List Sl)):List D->List Sl->Option (List Sl):=λds ρ=>match ds with
 |d::r=>match g d ρ with
  |some ρ'=>gs r ρ'
  |none=>none
 |[]=>none
theorem N4{n:Nat}(h:PGs X [] Uc):PGs X [] (JJ G n vG):=PGs.weak h λv σ H Q hh=>by
 obtain⟨F,ρ,H0,ds,ρ',R,r,e,k⟩:=hh;cases ds with
 |nil=>cases e;unfold pE at r;exact⟨r,k _ rfl R⟩
 |cons d ds=>cases e
theorem K8{n:Nat}{es:List Expr}{g:FG}(h:PGs X (e::es) (Pj (tFG G n g) (JJ G n gs))):PGs X (e::es) (JJ G n (qD g gs)):=PGs.weak h λv σ H Q hh=>by
 obtain⟨F,ρ,H0,ds,ρ',R,r,e,k⟩:=hh;cases ds with
 |nil=>cases e
 |cons d ds=>
  unfold pE at r;obtain⟨v1,r1,rfl,q1,q2⟩:=r;unfold qD at e;cases e1:g d ρ with
  |none=>simp only[e1]at e;cases e
  |some ρ1=>simp only[e1]at e;exact⟨v1,r1,rfl,F,ρ,H0,d,ρ1,R,q1,e1,λσ' s R'=>⟨F,ρ1,H0,ds,ρ',R',q2,e,λσ'' s' R''=>k _ (s'.trans s) R''⟩⟩
def gT(gs:List D->List Sl->Option (List Sl))(n:Nat):FG:=λd ρ=>match d with
 |.tup ds=>if ds.length=n then gs ds ρ else none
 |_=>none
theorem N5{n m:Nat}{es:List Expr}{k:Nat}(h:PG X (.Tuple es k pos) (Qb G.K m (JJ G n gs))):PG X (.Tuple es k pos) (tFG G n (gT gs m)):=PG.weak h λv σ H Q hh=>by
 obtain⟨F,ρ,H0,d,ρ',R,r,e,k⟩:=hh;cases d with
 |tup ds=>
  unfold gT at e;simp only at e;split at e
  ·rename_i hl;unfold Rep at r;obtain⟨a,xs,rfl,h1,h2⟩:=r;exact⟨a,xs,rfl,SqT.mono R.sub h1,by rw[<-pF h2];exact hl,F,ρ,H0,ds,ρ',R,h2,e,k⟩
  ·cases e
 |_=>cases e
def Dr(f:FE)(g:FG):FS:=λρ=>match f ρ with
 |some (d,ρ')=>match g d ρ' with
  |some ρ2=>some (.nx ρ2)
  |none=>none
 |none=>none
theorem N6{g:FG}{n:Nat}(h:PS X st (zf (tF G f) (tFG G n g))):PS X st (tFS G (Dr f g)):=PS.weak h λE σ H hh=>by
 obtain⟨F,ρ,H0,o,R,e,k,k2⟩:=hh;unfold Dr at e;rcases qc (f:=f) (ρ:=ρ)with e1|⟨d,ρ',e1⟩<;>simp only[e1]at e
 ·cases e
 ·cases e2:g d ρ' with
  |none=>simp only[e2]at e;cases e
  |some ρ2=>simp only[e2]at e;cases e;exact⟨F,ρ,H0,d,ρ',R,e1,λv H0' H' s R' r=>⟨F,ρ',H0',d,ρ2,R',r,e2,λσ' _ R2=>k _ _ _ s R2⟩⟩
def p6(i:Nat)(f:FE):FS:=λρ=>match f ρ with
 |some (d,ρ')=>some (.nx (ρ'.set i (.im d)))
 |none=>none
theorem Iq(h:PS X st (zf (tF G f) (vE i))):PS X st (tFS G (p6 i f)):=PS.weak h λE σ H hh=>by
 obtain⟨F,ρ,H0,o,R,e,k,k2⟩:=hh;unfold p6 at e;rcases qc (f:=f) (ρ:=ρ)with e1|⟨d,ρ',e1⟩<;>simp only[e1]at e
 ·cases e
 ·cases e;exact⟨F,ρ,H0,d,ρ',R,e1,λv H0' H' s R' r=>k _ _ _ s (R'.setIm i r)⟩
def qT(i:Nat)(f:FA):FS:=λρ=>match f ρ with
 |some (d,ρ')=>some (.nx (ρ'.set i (.ls d)))
 |none=>none
theorem FJ{f:FA}(h:PS X st (zf (tFN G f) (vE i))):PS X st (tFS G (qT i f)):=PS.weak h λE σ H hh=>by
 obtain⟨F,ρ,H0,o,R,e,k,k2⟩:=hh;unfold qT at e;rcases qc (f:=f) (ρ:=ρ)with e1|⟨d,ρ',e1⟩<;>simp only[e1]at e
 ·cases e
 ·cases e;exact⟨F,ρ,H0,d,ρ',R,e1,λp xs H0' H' s R' h1 h2 h3 h4 h5=>k _ _ _ s (R'.setLs i h1 h2 h3 h4 h5)⟩
def stE(n:Nat)(ds:List D):List Sl:=ds.map Sl.im++br (n - ds.length) .un
def fnD(np n:Nat)(f:FS):List D->Option D:=λds=>if ds.length=np then match f (stE n ds)with
 |some (.rt d _)=>some d
 |some (.rn ds _)=>some (.lst ds)
 |some (.nx _)=>some .non
 |_=>none
 else none
def fnN(np n:Nat)(f:FS):List D->Option (List D):=λds=>if ds.length=np then match f (stE n ds)with
 |some (.rn ds _)=>some ds
 |_=>none
 else none
def spF(G:Bg)(g:List D->Option D):Sp:=λvs H Q _=>∃H0 ds d,pL H0 H/\pE G H0 ds vs/\g ds=some d/\
 ∀v H0' H',pL H0 H0'->pL H0' H'->pL H H'->(∀b o,H0' b=some o->H0 b=some o\/H b=none)->Rep G H0' d v->Q v H'
def spN(G:Bg)(g:List D->Option (List D)):Sp:=λvs H Q _=>∃H0 ds d,pL H0 H/\pE G H0 ds vs/\g ds=some d/\
 ∀p xs H0' H',pL H0 H0'->pL H0' H'->pL H H'->(∀b o,H0' b=some o->H0 b=some o\/H b=none)->H p=none->H' p=some (.lst xs)->H0' p=none->pE G H0' d xs->Q (.ref p) H'
theorem BH{n:Nat}{s:Sl}(h:(stE n ds)[i]?=some s):s=.un\/∃d,ds[i]?=some d/\s=.im d:=by
 unfold stE at h;by_cases hi:i<ds.length
 ·rw[dR (by simpa using hi),bb,aY hi]at h;cases h;exact .inr ⟨_,aY hi,rfl⟩
 ·rw[dQ (by simpa using hi),gy]at h;split at h
  ·cases h;exact .inl rfl
  ·cases h
theorem wD{v:V}(h:vs[i]?=some v):((L2.start N vs)[i]?).join=some v:=by unfold L2.start;have hi:=(bE.mp h).1;rw[dR (by simpa using hi),bb,h];rfl
theorem DU{H:Hp}(s:pL H0 H)(r:pE G H0 ds vs)(hl:vs.length<=N.length):pV G ⟨H0,H,[]⟩ (L2.start N vs) (stE N.length ds) H0 H where
 sub:=s
 g0:=pL.refl _
 keep:=λb o e _=>e
 fr:=λb o e=>.inl e
 am:=λa h=>by cases h
 len:=by unfold L2.start stE;rw[au,au,af,af,bV,bV,pF r]
 sl:=λi t e=>by
  rcases BH e with rfl|⟨d,e1,rfl⟩
  ·trivial
  ·obtain⟨v,e2,e3⟩:=uY r e1;exact⟨v,wD e2,e3⟩
 ap:=λi j t u a _ e _ ht=>by rcases BH e with rfl|⟨d,_,rfl⟩<;>cases ht
theorem FK{n:Nat}{f:FS}(h:fnD np n f ds=some d):ds.length=np/\((∃ρ,f (stE n ds)=some (.rt d ρ))\/(∃xs ρ,f (stE n ds)=some (.rn xs ρ)/\d=.lst xs)\/∃ρ,f (stE n ds)=some (.nx ρ)/\d=.non):=by
 unfold fnD at h;split at h
 ·rename_i hl;refine⟨hl,?_⟩;split at h
  ·rename_i e;cases h;exact .inl ⟨_,e⟩
  ·rename_i e;cases h;exact .inr (.inl ⟨_,_,e,rfl⟩)
  ·rename_i e;cases h;exact .inr (.inr ⟨_,e,rfl⟩)
  ·cases h
 ·cases h
theorem FL{n:Nat}{f:FS}{xs:List D}(h:fnN np n f ds=some xs):ds.length=np/\∃ρ,f (stE n ds)=some (.rn xs ρ):=by
 unfold fnN at h;split at h
 ·rename_i hl;refine⟨hl,?_⟩;split at h
  ·rename_i e;cases h;exact⟨_,e⟩
  ·cases h
 ·cases h
end
variable{E:XK}
theorem N7{f:FS}{H:Hp}{Q:VK}(hN:np<=N.length)(h:spF G (fnD np N.length f) vs H Q E):tFS G f { nx:=λ_ H'=>Q .non H',rt:=Q } (L2.start N vs) H:=by
 obtain⟨H0,ds,d,s,r,e,k⟩:=h;obtain⟨hl,e'⟩:=FK e;clear e;have R:=DU (N:=N) s r (by rw[<-pF r,hl];exact hN);have fin:∀{σ':St} {ρ':List Sl} {H0' H':Hp},pV G ⟨H0,H,[]⟩ σ' ρ' H0' H'->pL H H'/\pL H0' H'/\∀b o,H0' b=some o->H0 b=some o\/H b=none:=λR'=>⟨λb o e=>R'.keep b o e (by simp),R'.sub,R'.fr⟩;rcases e' with ⟨ρ,e⟩|⟨xs,ρ,e,rfl⟩|⟨ρ,e,rfl⟩
 ·refine⟨_,_,H0,_,R,e,λv σ' H0' H' s' R' rv=>?_,λ_=>rfl⟩;obtain⟨h1,h2,h3⟩:=fin R';exact k v H0' H' s' h2 h1 h3 rv
 ·refine⟨_,_,H0,_,R,e,λp ys σ' H0' H' s' R' hp h0 hb ap rs=>?_,λ_=>rfl⟩;have R2:=R'.freeze hp h0 hb ap;obtain⟨h1,h2,h3⟩:=fin R2;exact k _ _ H' (s'.trans (pX h0 _)) h2 h1 h3 (wY pK (pE.mono (pX h0 _) _ _ rs))
 ·refine⟨_,_,H0,_,R,e,λσ' H0' H' s' R'=>?_,λ_=>rfl⟩;obtain⟨h1,h2,h3⟩:=fin R';exact k _ H0' H' s' h2 h1 h3 uK
theorem N8{f:FS}{H:Hp}{Q:VK}(hN:np<=N.length)(h:spN G (fnN np N.length f) vs H Q E):tFS G f { nx:=λ_ H'=>Q .non H',rt:=Q } (L2.start N vs) H:=by obtain⟨H0,ds,d,s,r,e,k⟩:=h;obtain⟨hl,ρ,e⟩:=FL e;have R:=DU (N:=N) s r (by rw[<-pF r,hl];exact hN);refine⟨_,_,H0,_,R,e,λp ys σ' H0' H' s' R' hp h0 hb ap rs=>?_,λ_=>rfl⟩;exact k p ys H0' H' s' R'.sub (λb o e=>R'.keep b o e (by simp)) R'.fr hb hp h0 rs
theorem UI{g:List D->Option D}(hg:∀ds d,g ds=some d->ds.length=np):∀vs H Q E,spF G g vs H Q E->vs.length=np:=λvs H Q E h=>by obtain⟨H0,ds,d,_,r,e,_⟩:=h;rw[<-pF r];exact hg _ _ e
theorem UJ{g:List D->Option (List D)}(hg:∀ds d,g ds=some d->ds.length=np):∀vs H Q E,spN G g vs H Q E->vs.length=np:=λvs H Q E h=>by obtain⟨H0,ds,d,_,r,e,_⟩:=h;rw[<-pF r];exact hg _ _ e
theorem N9{n:Nat}{f:FS}:∀ds d,fnD np n f ds=some d->ds.length=np:=λ_ _ h=>(FK h).1
theorem Oa{n:Nat}{f:FS}:∀ds d,fnN np n f ds=some d->ds.length=np:=λ_ _ h=>(FL h).1
def Av{α:Type}(g:List D->Option α)(a:FA):List Sl->Option (α×List Sl):=λρ=>match a ρ with
 |some (ds,ρ')=>match g ds with
  |some d=>some (d,ρ')
  |none=>none
 |none=>none
abbrev pC(g:List D->Option D)(a:FA):FE:=Av g a
abbrev qh(g:List D->Option (List D))(a:FA):FA:=Av g a
theorem zh{α:Type}{g:List D->Option α}{a:FA}{d:α}(h:Av g a ρ=some (d,ρ')):∃ds,a ρ=some (ds,ρ')/\g ds=some d:=by
 unfold Av at h;rcases qc (f:=a) (ρ:=ρ)with e1|⟨ds,ρ1,e1⟩<;>simp only[e1]at h
 ·cases h
 ·cases e2:g ds with
  |none=>simp only[e2]at h;cases h
  |some x=>simp only[e2]at h;cases h;exact⟨ds,e1,e2⟩
variable{dvs:List V}{dds:List D}
section
variable{X:Cx}{G:Bg}
theorem Ob{g:List D->Option D}{a:FA}(hd:∀H,pE G H dds dvs):∀σ H Q,tF G (pC (λds=>g (ds++dds)) a) σ H Q->zD (spF G g) dvs E (tFA G a) σ H Q:=λσ H Q hh=>by obtain⟨F,ρ,H0,d,ρ',R,e,k⟩:=hh;obtain⟨ds,e1,e2⟩:=zh e;refine⟨F,ρ,H0,ds,ρ',R,e1,λxs H1 H1' s R' rs=>⟨H1,ds++dds,d,R'.sub,rq rs (hd _),e2,λv H2 H2' s1 s2 s3 fr rv=>?_⟩⟩;exact k v H2 H2' (s.trans s1) (R'.grow s3 s1 s2 fr) rv
theorem Oc{g:List D->Option (List D)}{a:FA}(hd:∀H,pE G H dds dvs):∀σ H Q,tFN G (qh (λds=>g (ds++dds)) a) σ H Q->zD (spN G g) dvs E (tFA G a) σ H Q:=λσ H Q hh=>by obtain⟨F,ρ,H0,d,ρ',R,e,k⟩:=hh;obtain⟨ds,e1,e2⟩:=zh e;refine⟨F,ρ,H0,ds,ρ',R,e1,λxs H1 H1' s R' rs=>⟨H1,ds++dds,d,R'.sub,rq rs (hd _),e2,λp ys H2 H2' s1 s2 s3 fr hn hp h0 rv=>?_⟩⟩;exact k p ys H2 H2' (s.trans s1) (R'.grow s3 s1 s2 fr) hp h0 (R'.bNone hn) (R'.apart hn) rv
end
variable{ff:FE}{m:Str}{ta:TE}{apos:Pos}{c:Nat}
section
variable{X:Cx}{G:Bg}
theorem Od{g:List D->Option D}{a:FA}(hd:∀H,pE G H dds dvs)(h:PE X e (zD (spF G g) dvs E (tFA G a))):PE X e (tF G (pC (λds=>g (ds++dds)) a)):=PE.weak h (Ob hd)
theorem K9{g:List D->Option (List D)}{a:FA}(hd:∀H,pE G H dds dvs)(h:PE X e (zD (spN G g) dvs E (tFA G a))):PE X e (tFN G (qh (λds=>g (ds++dds)) a)):=PE.weak h (Oc hd)
theorem JK{g:List D->Option (List D)}(h:PE X e (zD (spN G g) [] E Dl)):PE X e (tFN G (qh g qe)):=PE.weak h λσ H Q hh=>by obtain⟨F,ρ,H0,d,ρ',R,e,k⟩:=hh;obtain⟨ds,e1,e2⟩:=zh e;cases e1;exact⟨H0,[],d,R.sub,qf,e2,λp ys H2 H2' s1 s2 s3 fr hn hp h0 rv=>k p ys H2 H2' s1 (R.grow s3 s1 s2 fr) hp h0 (R.bNone hn) (R.apart hn) rv⟩
def JL:List Str->List D->Str->Option D
 |n::ns,d::ds,f=>if n=f then some d else JL ns ds f
 |_,_,_=>none
theorem DV{H:Hp}:∀{ns:List Str} {ds:List D} {xs:List V} {f:Str} {d:D},pE G H ds xs->JL ns ds f=some d->∃v,(ns.zip xs).lookup f=some v/\Rep G H d v
 |[],ds,xs,f,d,r,e=>by simp[JL]at e
 |n::ns,[],xs,f,d,r,e=>by simp[JL]at e
 |n::ns,d'::ds,xs,f,d,r,e=>by
  unfold pE at r;obtain⟨v,q,rfl,h1,h2⟩:=r;unfold JL at e;by_cases hn:n=f
  ·rw[ah hn]at e;cases e;subst hn;exact⟨v,by simp[cv],h1⟩
  ·rw[aj hn]at e;obtain⟨w,e1,e2⟩:=DV h2 e;refine⟨w,?_,e2⟩;have hb:(f==n)=false:=beq_eq_false_iff_ne.mpr λz=>hn z.symm;simp only[du,cv,hb];exact e1
def pG(ok:Nat->Bool)(f:Str):D->Option D
 |.obj c ns ds=>if ok c=true then JL ns ds f else none
 |_=>none
theorem La{f:Str}{ok:Nat->Bool}(he:PE X e (tF G ff))(hc:∀c,ok c=true->Cls X.K (G.ca c)/\uX X.K (G.ca c) f)(hb:df e f X.env (eval e X.env)=eval e X.env:=by rfl):PE X (.Attribute e f pos) (tF G (c1 (pG ok f) ff)):=PE.weak (Qq he hb) λσ H Q hh=>by
 obtain⟨F,ρ,H0,d,ρ',R,e,k⟩:=hh;obtain⟨x,e1,e2⟩:=zK e;cases x with
 |obj c ns ds=>
  unfold pG at e2;simp only at e2;split at e2
  ·rename_i hk;refine⟨F,ρ,H0,_,ρ',R,e1,λv H1 H1' s R' r=>?_⟩;unfold Rep at r;obtain⟨a,dx,xs,rfl,h1,h2,h3⟩:=r;obtain⟨w,l1,l2⟩:=DV h3 e2;exact⟨a,_,dx,_,w,rfl,R'.sub _ _ h1,(hc c hk).1,(hc c hk).2,l1,k _ _ _ s R' l2⟩
  ·cases e2
 |_=>cases e2
def MOk(X:Cx)(C:Addr)(m:Str)(sp:Sp)(dvs:List V)(E:XK):Prop:=∃(k:Nat) (f:Addr) (fd:bB) (ps:List Str) (ds:List aa),Cls X.K C/\Meth X.K C m f/\uw X.prog X.w X.K X.mg X.base CX0 k f fd ps sp/\rG k X.A/\Binds X.K fd ps ds/\Vals dvs ds/\Passes CX0 X E
def qB(g:Nat->Option (List D->Option D))(m:Str)(f:FE)(a:FA):FE:=λρ=>match f ρ with
 |some (.obj c ns ds,ρ1)=>match g c with
  |some h=>if ns.contains m=true then none else match a ρ1 with
   |some (es,ρ2)=>match h (.obj c ns ds::es)with
    |some d=>some (d,ρ2)
    |none=>none
   |none=>none
  |none=>none
 |_=>none
theorem B7{g:Nat->Option (List D->Option D)}{a:FA}(h:qB g m f a ρ=some (d,ρ')):
  ∃c ns ds ρ1 hh es,f ρ=some (.obj c ns ds,ρ1)/\g c=some hh/\ns.contains m=false/\a ρ1=some (es,ρ')/\hh (.obj c ns ds::es)=some d:=by
 unfold qB at h;split at h
 ·rename_i c ns ds ρ1 e1;cases e2:g c with
  |none=>simp only[e2]at h;cases h
  |some hh=>
   simp only[e2]at h;cases e3:ns.contains m with
   |true=>simp only[e3,if_true]at h;cases h
   |false=>
    simp only[e3,eO,if_false]at h;rcases qc (f:=a) (ρ:=ρ1)with e4|⟨es,ρ2,e4⟩<;>simp only[e4]at h
    ·cases h
    ·cases e5:hh (.obj c ns ds::es)with
     |none=>simp only[e5]at h;cases h
     |some x=>simp only[e5]at h;cases h;exact⟨c,ns,ds,ρ1,hh,es,e1,e2,e3,e4,e5⟩
 ·cases h
theorem zi{m:Str}:∀{ns:List Str} {xs:List V},ns.contains m=false->(ns.zip xs).lookup m=none
 |[],xs,h=>rfl
 |n::ns,[],h=>rfl
 |n::ns,x::xs,h=>by rw[kG,iE]at h;simp only[du,cv,h.1];exact zi h.2
theorem Lb{o:Expr}{es:List Expr}{t:TA}{pl:Sem Bool}(T:Addr->Sp->Prop)(hT:∀C sp,T C sp->MOk X C m sp dvs E)(he:PE X o ta)(ha:PA X (e::es) t)
  (hst:aw (e::es) X.env=(false,eval e X.env)::aw es X.env:=by rfl) (hpl:(ba pos (aw es X.env)).any (·.1)=false:=by rfl)
  (ht:eval (.Call (.Attribute o m apos) (e::es) [] pos) X.env=(do
   let ov<-eval o X.env
   standAt apos.atName
   let (f,first)<-holding [ov] (getMethod ov m pl)
   callWith pos f first (ba pos (aw (e::es) X.env)) (backToKw pos (cM [] X.env))):=by rfl):
  PE X (.Call (.Attribute o m apos) (e::es) [] pos) (λσ H Q=>ta σ H λx H1=>∃a C dx fs sp,x=.ref a/\H1 a=some (.ins C dx fs)/\T C sp/\fs.lookup m=none/\t σ H1 λvs H2=>sp (x::(vs++dvs)) H2 Q E):=by
 intro pins s σ H Q I h;refine lX (pl:=pl) (thn (he pins s σ H _ I h) λu s1 zz=>?_) ht;obtain⟨x,H1,I1,rx,a,C,dx,fs,sp,ex,ea,ht,l,q⟩:=zz;obtain⟨k,f,fd,ps,ds,c,hm,F,hr,hb,hd,hx⟩:=hT C sp ht;subst ex;obtain rfl:u=Value.ref a:=rx;refine BR I1 ea c hm l ?_;refine jw (first:=[.ref a]) (h₀:=X.base) I.ok.mod.kin hm.kp (thn (ha pos pins s1 σ H1 _ I1 q) λus s2 ⟨vs,H2,I2,r,q2⟩=>⟨I2.kIn,?_⟩) hst hpl;exact Ey (us:=.ref a::us) (vs:=.ref a::vs) F hr hb hd hx I2 (.cons rfl r) q2
theorem JM{o:Expr}{pl:Sem Bool}(T:Addr->Sp->Prop)(hT:∀C sp,T C sp->MOk X C m sp dvs E)(he:PE X o ta)
  (ht:eval (.Call (.Attribute o m apos) [] [] pos) X.env=(do
   let ov<-eval o X.env
   standAt apos.atName
   let (f,first)<-holding [ov] (getMethod ov m pl)
   callWith pos f first (ba pos (aw [] X.env)) (backToKw pos (cM [] X.env))):=by rfl):
  PE X (.Call (.Attribute o m apos) [] [] pos) (λσ H Q=>ta σ H λx H1=>∃a C dx fs sp,x=.ref a/\H1 a=some (.ins C dx fs)/\T C sp/\fs.lookup m=none/\sp (x::dvs) H1 Q E):=by
 intro pins s σ H Q I h;refine lX (pl:=pl) (thn (he pins s σ H _ I h) λu s1 zz=>?_) ht;obtain⟨x,H1,I1,rx,a,C,dx,fs,sp,ex,ea,ht,l,q⟩:=zz;obtain⟨k,f,fd,ps,ds,c,hm,F,hr,hb,hd,hx⟩:=hT C sp ht;subst ex;obtain rfl:u=Value.ref a:=rx;refine BR I1 ea c hm l ?_;exact jk (first:=[.ref a]) I1.kIn hm.kp (Ey (us:=[.ref a]) (vs:=[.ref a]) F hr hb hd hx I1 (.cons rfl .nil) q)
def MT(G:Bg)(g:Nat->Option (List D->Option D)):Addr->Sp->Prop:=λC sp=>∃c h,g c=some h/\C=G.ca c/\sp=spF G h
theorem Oe{o:Expr}{es:List Expr}{a:FA}{g:Nat->Option (List D->Option D)}(h:PE X (.Call (.Attribute o m apos) (e::es) [] pos) (λσ H Q=>tF G f σ H λx H1=>∃a' C dx fs sp,x=.ref a'/\H1 a'=some (.ins C dx fs)/\MT G g C sp/\fs.lookup m=none/\tFA G a σ H1 λvs H2=>sp (x::(vs++[])) H2 Q E)):
  PE X (.Call (.Attribute o m apos) (e::es) [] pos) (tF G (qB g m f a)):=PE.weak h λσ H Q hh=>by
 obtain⟨F,ρ,H0,d,ρ',R,e,k⟩:=hh;obtain⟨c,ns,ds,ρ1,hh,es',e1,e2,e3,e4,e5⟩:=B7 e;refine⟨F,ρ,H0,_,ρ1,R,e1,λv H1 H1' s R' r=>?_⟩;have r0:=r;unfold Rep at r;obtain⟨a',dx,xs,rfl,h1,h2,h3⟩:=r;refine⟨a',_,dx,_,_,rfl,R'.sub _ _ h1,⟨c,hh,e2,rfl,rfl⟩,zi e3,F,ρ1,H1,es',ρ',R',e4,λys H2 H2' s2 R2 rs=>?_⟩;show spF G hh (V.ref a'::(ys++[])) H2' Q E;rw[bA];exact⟨H2,_,d,R2.sub,qr (Rep.mono s2 _ _ r0) rs,e5,λv H3 H3' t1 t2 t3 fr rv=>k v H3 H3' (s.trans (s2.trans t1)) (R2.grow t3 t1 t2 fr) rv⟩
theorem Lc{o:Expr}{g:Nat->Option (List D->Option D)}(h:PE X (.Call (.Attribute o m apos) [] [] pos) (λσ H Q=>tF G f σ H λx H1=>∃a' C dx fs sp,x=.ref a'/\H1 a'=some (.ins C dx fs)/\MT G g C sp/\fs.lookup m=none/\sp (x::[]) H1 Q E)):
  PE X (.Call (.Attribute o m apos) [] [] pos) (tF G (qB g m f qe)):=PE.weak h λσ H Q hh=>by
 obtain⟨F,ρ,H0,d,ρ',R,e,k⟩:=hh;obtain⟨c,ns,ds,ρ1,hh,es',e1,e2,e3,e4,e5⟩:=B7 e;cases e4;refine⟨F,ρ,H0,_,_,R,e1,λv H1 H1' s R' r=>?_⟩;have r0:=r;unfold Rep at r;obtain⟨a',dx,xs,rfl,h1,h2,h3⟩:=r;refine⟨a',_,dx,_,_,rfl,R'.sub _ _ h1,⟨c,hh,e2,rfl,rfl⟩,zi e3,?_⟩;exact⟨H1,_,d,R'.sub,qr r0 qf,e5,λv H3 H3' t1 t2 t3 fr rv=>k v H3 H3' (s.trans t1) (R'.grow t3 t1 t2 fr) rv⟩
def spI(G:Bg)(c:Nat)(g:List D->Option (List Str×List D)):Sp:=λvs H Q _=>∃(p dx:Addr) (us:List V) (H0:Hp) (ds:List D) (ns:List Str) (es:List D),vs=.ref p::us/\H p=some (.ins (G.ca c) dx [])/\H0 p=none/\pL H0 H/\pE G H0 ds us/\g ds=some (ns,es)/\
 ∀ys dx' H0' H',pL H0 H0'->pL H0' H'->(∀b o,H b=some o->b≠p->H' b=some o)->(∀b o,H0' b=some o->H0 b=some o\/H b=none)->H0' p=none->H' p=some (.ins (G.ca c) dx' (ns.zip ys))->ns.length=ys.length->pE G H0' es ys->Q .non H'
def pY(c:Nat)(g:List D->Option (List Str×List D))(a:FA):FE:=λρ=>match a ρ with
 |some (ds,ρ')=>match g ds with
  |some (ns,es)=>some (.obj c ns es,ρ')
  |none=>none
 |none=>none
theorem Of{g:List D->Option (List Str×List D)}{a:FA}(hd:∀H,pE G H dds dvs)(h:PE X e (Pl (G.ca c) (spI G c g) dvs E (tFA G a))):PE X e (tF G (pY c (λds=>g (ds++dds)) a)):=PE.weak h λσ H Q hh=>by
 obtain⟨F,ρ,H0,d,ρ',R,e,k⟩:=hh;unfold pY at e;rcases qc (f:=a) (ρ:=ρ)with e1|⟨ds,ρ1,e1⟩<;>simp only[e1]at e
 ·cases e
 ·cases e2:g (ds++dds)with
  |none=>simp only[e2]at e;cases e
  |some q=>
   obtain⟨ns,es⟩:=q;simp only[e2]at e;cases e;refine⟨F,ρ,H0,ds,ρ',R,e1,λxs H1 H1' s R' rs x dx hx hdx ne=>?_⟩;have hx2:(upd H1' dx (.own x)) x=none:=by rw[pM (λz=>ne z.symm)];exact hx
   have sx:pL H1' (upd (upd H1' dx (.own x)) x (.ins (G.ca c) dx [])):=(pX hdx _).trans (pX hx2 _);refine⟨x,dx,_,H1,ds++dds,ns,es,rfl,pK,R'.h0none hx,R'.sub.trans sx,rq rs (hd _),e2,λys dx' H2 H2' t1 t2 t3 fr h0 hp hl ry=>⟨rfl,?_⟩⟩;have t4:pL H1' H2':=λb o e=>t3 b o (sx b o e) (sh e hx);have fr1:∀b o,H2 b=some o->H1 b=some o\/H1' b=none:=λb o e=>by
    rcases fr b o e with q|q
    ·exact .inl q
    ·cases z:H1' b with
     |none=>exact .inr rfl
     |some u=>rw[sx b u z]at q;cases q
   have R2:=R'.grow t4 t1 t2 fr1;have hb:F.B x=none:=R'.bNone hx;have R3:=R2.freeze hp h0 hb (λi t ei to z=>R'.apart hx i t ei to z);refine k _ _ _ (s.trans (t1.trans (pX h0 _))) R3 ?_;unfold Rep;exact⟨x,dx',ys,rfl,pK,hl,pE.mono (pX h0 _) _ _ ry⟩
def qq(c0:Nat)(i:Nat)(f:Str)(ff:FE):FS:=λρ=>match ff ρ with
 |some (d,ρ1)=>match ρ1[i]? with
  |some (.ob c ns ds)=>if c=c0 then if ns.contains f=true then none else if ds.length=ns.length then if ns.length<900 then some (.nx (ρ1.set i (.ob c (ns++[f]) (ds++[d]))))else none else none else none
  |_=>none
 |none=>none
theorem FM{f:Str}{v:V}:∀{ns:List Str} {xs:List V},ns.contains f=false->ns.length=xs.length->wz f v (ns.zip xs)=(ns++[f]).zip (xs++[v])
 |[],[],h,l=>rfl
 |[],x::xs,h,l=>by cases l
 |n::ns,[],h,l=>by cases l
 |n::ns,x::xs,h,l=>by
  rw[kG,iE]at h;have hn:¬n=f:=λz=>by rw[z]at h;simp at h
  have ih:=FM (f:=f) (v:=v) (ns:=ns) (xs:=xs) h.2 (by simpa using l);show wz f v ((n,x)::ns.zip xs)=_;rw[show wz f v ((n,x)::ns.zip xs)=(if n=f then (n,v)::ns.zip xs else (n,x)::wz f v (ns.zip xs)) from rfl,aj hn,ih];rfl
theorem Og{c0:Nat}{f:Str}(h:PS X st (Uo X.K (wy i) (tF G ff) f))(hc:Cls X.K (G.ca c0)/\uX X.K (G.ca c0) f):PS X st (tFS G (qq c0 i f ff)):=PS.weak h λE σ H hh=>by
 obtain⟨F,ρ,H0,o,R,e,k,k2⟩:=hh;unfold qq at e;rcases qc (f:=ff) (ρ:=ρ)with e1|⟨d,ρ1,e1⟩<;>simp only[e1]at e
 ·cases e
 ·split at e
  ·rename_i c ns ds e2;split at e
   ·rename_i hcc;subst hcc;split at e
    ·cases e
    rename_i hnc;split at e
    ·rename_i hl;split at e
     ·rename_i h9;cases e;refine⟨F,ρ,H0,d,ρ1,R,e1,λv H1 H1' s R' r=>?_⟩;obtain⟨a,dx,xs,e3,e4,e5,e6,e7,e8⟩:=R'.sl i _ e2;refine⟨_,tK e3,a,_,dx,_,rfl,e4,hc.1,hc.2,by rw[fU];omega,?_⟩;have hnf:ns.contains f=false:=by simpa using hnc
      rw[FM hnf e7];refine k _ _ _ s (R'.mut e2 rfl e3 (λH' hH=>?_) rfl);exact⟨a,dx,xs++[v],rfl,hH,e5,e6,by rw[au,au,e7];rfl,rq e8 (qr r qf)⟩
     ·cases e
    ·cases e
   ·cases e
  ·cases e
def stI(c n:Nat)(ds:List D):List Sl:=.ob c [] []::stE (n - 1) ds
def fnI(c np n:Nat)(f:FS):List D->Option (List Str×List D):=λds=>if ds.length=np then match f (stI c n ds)with
 |some (.nx ρ)=>match (ρ:List Sl)[0]? with
  |some (Sl.ob c' ns es)=>if c'=c then if ns.length=es.length then some (ns,es)else none else none
  |_=>none
 |_=>none
 else none
theorem B8{n:Nat}{f:FS}{q:List Str×List D}(h:fnI c np n f ds=some q):ds.length=np/\∃ρ,f (stI c n ds)=some (.nx ρ)/\ρ[0]?=some (.ob c q.1 q.2)/\q.1.length=q.2.length:=by
 unfold fnI at h;split at h
 ·rename_i hl;refine⟨hl,?_⟩;split at h
  ·rename_i ρ e;split at h
   ·rename_i c' ns es e2;split at h
    ·rename_i hc;split at h
     ·rename_i h3;subst hc;cases h;exact⟨ρ,e,e2,h3⟩
     ·cases h
    ·cases h
   ·cases h
  ·cases h
 ·cases h
theorem Ir{f:FS}{H:Hp}{Q:VK}(hN:np+1<=N.length)(h:spI G c (fnI c np N.length f) vs H Q E):tFS G f { nx:=λ_ H'=>Q .non H',rt:=Q } (L2.start N vs) H:=by
 obtain⟨p,dx,us,H0,ds,ns,es,rfl,hp,h0,s,r,e,k⟩:=h;obtain⟨hl,ρ,e1,e2,e3⟩:=B8 e;have hul:us.length=np:=by rw[<-pF r];exact hl
 have gets:∀{i:Nat} {t:Sl},(stI c N.length ds)[i]?=some t->(i=0/\t=.ob c [] [])\/t=.un\/∃(j:Nat) (d:D),i=j+1/\ds[j]?=some d/\t=.im d:=λ{i t} e=>by
  cases i with
  |zero=>cases e;exact .inl ⟨rfl,rfl⟩
  |succ j=>
   have e':(stE (N.length - 1) ds)[j]?=some t:=e;rcases BH e' with rfl|⟨d,e1,rfl⟩
   ·exact .inr (.inl rfl)
   ·exact .inr (.inr ⟨j,d,rfl,e1,rfl⟩)
 have R:pV G ⟨H0,H,[p]⟩ (L2.start N (.ref p::us)) (stI c N.length ds) H0 H:={
  sub:=s
  g0:=pL.refl _
  keep:=λb o e _=>e
  fr:=λb o e=>.inl e
  am:=λa ha=>by
   have ea:a=p:=by simpa using ha
   subst ea;exact⟨_,hp⟩
  len:=by unfold L2.start stI stE;simp only[au,af,bV,aB];have:=pF r;omega
  sl:=λi t e=>by
   rcases gets e with ⟨rfl,rfl⟩|rfl|⟨j,d,rfl,e1,rfl⟩
   ·exact⟨p,dx,[],wD rfl,hp,h0,by simp,rfl,qf⟩
   ·trivial
   ·obtain⟨v,e2,e3⟩:=uY r e1;exact⟨v,wD (by simpa using e2),e3⟩
  ap:=λi j t u a hij ei ej ht hu=>by
   rcases gets ei with ⟨rfl,rfl⟩|rfl|⟨_,_,_,_,rfl⟩
   ·rcases gets ej with ⟨rfl,rfl⟩|rfl|⟨_,_,_,_,rfl⟩
    ·exact ao rfl hij
    ·cases hu
    ·cases hu
   ·cases ht
   ·cases ht }
 refine⟨_,_,H0,_,R,e1,λσ' H0' H' s' R'=>?_,λ_=>rfl⟩;obtain⟨a,dx',ys,q1,q2,q3,q4,q5,q6⟩:=R'.sl 0 _ e2;have ea:a=p:=by simpa using q4
 subst ea;exact k ys dx' H0' H' s' R'.sub (λb o e n=>R'.keep b o e (by simpa using n)) R'.fr q3 q2 q5 q6
end
def Sl.L:Sl->Option (List D)
 |.ls ds=>some ds
 |.pm ds=>some ds
 |_=>none
def Sl.putL:Sl->List D->Sl
 |.pm _,ds=>.pm ds
 |_,ds=>.ls ds
theorem Sl.L_own{s:Sl}(h:s.L=some ds):s.own=true:=by cases s<;>first|rfl|cases h
theorem Sl.putL_L{s:Sl}:(s.putL ds).L=some ds:=by cases s<;>rfl
section
variable{G:Bg}{F:Fr}{σ:St}{ρ:List Sl}{H0 H:Hp}
theorem Dp.lst{o:Option V}{s:Sl}{ds:List D}(h:Dp G F H0 H o s)(e:s.L=some ds):∃a xs,o=some (.ref a)/\H a=some (.lst xs)/\H0 a=none/\pE G H0 ds xs:=by
 cases s with
 |ls ds'=>cases e;obtain⟨a,xs,h1,h2,h3,h4,h5⟩:=h;exact⟨a,xs,h1,h2,h3,h5⟩
 |pm ds'=>cases e;obtain⟨a,xs,h1,h2,h3,h4,h5⟩:=h;exact⟨a,xs,h1,h2,h3,h5⟩
 |_=>cases e
theorem pV.mutL(R:pV G F σ ρ H0 H){s:Sl}{ds':List D}{xs':List V}(hi:ρ[i]?=some s)(hs:s.L=some ds)(ha:(σ[i]?).join=some (.ref a))(r:pE G H0 ds' xs'):
  pV G F σ (ρ.set i (s.putL ds')) H0 (upd H a (.lst xs')):=by
 have ok:=R.sl i s hi;rw[ha]at ok;refine R.mut hi (Sl.L_own hs) ha (λH' hH=>?_) (Sl.L_own Sl.putL_L);cases s with
 |ls ds0=>obtain⟨b,xs,h1,h2,h3,h4,h5⟩:=ok;cases h1;exact⟨a,xs',rfl,hH,h3,h4,r⟩
 |pm ds0=>obtain⟨b,xs,h1,h2,h3,h4,h5⟩:=ok;cases h1;exact⟨a,xs',rfl,hH,h3,h4,r⟩
 |_=>cases hs
end
def q9(ρ:List Sl)(i:Nat):Option (List D):=match ρ[i]? with
 |some s=>s.L
 |none=>none
theorem uc(h:q9 ρ i=some ds):∃s,ρ[i]?=some s/\s.L=some ds:=by
 unfold q9 at h;cases e:ρ[i]? with
 |none=>rw[e]at h;cases h
 |some s=>rw[e]at h;exact⟨s,rfl,h⟩
def putAt(ρ:List Sl)(i:Nat)(ds:List D):List Sl:=match ρ[i]? with
 |some s=>ρ.set i (s.putL ds)
 |none=>ρ
def vT(i:Nat)(f:FE):FE:=λρ=>match q9 ρ i with
 |some _=>match f ρ with
  |some (d,ρ1)=>match q9 ρ1 i with
   |some ds=>if ds.length<1000 then some (.non,putAt ρ1 i (ds++[d]))else none
   |none=>none
  |none=>none
 |none=>none
section
variable{X:Cx}{G:Bg}
theorem sm{H:Hp}(R:pV G F σ ρ H0 H)(h:q9 ρ i=some ds):∃a xs,σ[i]?=some (some (.ref a))/\H a=some (.lst xs)/\pE G H0 ds xs/\
  (∀ds' xs',pE G H0 ds' xs'->pV G F σ (putAt ρ i ds') H0 (upd H a (.lst xs'))):=by
 obtain⟨s,e1,e2⟩:=uc h;obtain⟨a,xs,e3,e4,e5,e6⟩:=(R.sl i s e1).lst e2;refine⟨a,xs,tK e3,e4,e6,λds' xs' r=>?_⟩;unfold putAt;rw[e1];exact R.mutL e1 e2 e3 r
theorem JN(h:PE X e (tBM G.K "list" EG (wy i) (tFA G (aCons f qe)))):PE X e (tF G (vT i f)):=PE.weak h λσ H Q hh=>by
 obtain⟨F,ρ,H0,d,ρ',R,e,k⟩:=hh;unfold vT at e;cases e0:q9 ρ i with
 |none=>simp only[e0]at e;cases e
 |some ds0=>
  simp only[e0]at e;rcases qc (f:=f) (ρ:=ρ)with e1|⟨x,ρ1,e1⟩<;>simp only[e1]at e
  ·cases e
  ·cases e2:q9 ρ1 i with
   |none=>simp only[e2]at e;cases e
   |some ds=>
    simp only[e2]at e;split at e
    ·rename_i hl;cases e;obtain⟨a,xs,s1,s2,s3,_⟩:=sm R e0;refine⟨.ref a,s1,.inl ⟨rfl,xs,SqL.of s2⟩,F,ρ,H0,[x],ρ1,R,by unfold aCons;rw[e1];rfl,λys H1 H1' s R' rs=>?_⟩;unfold pE at rs;obtain⟨v,r0,rfl,rv,rn⟩:=rs;unfold pE at rn;subst rn;obtain⟨a',xs',t1,t2,t3,t4⟩:=sm R' e2;rw[s1]at t1;cases t1;exact⟨a,xs',v,rfl,rfl,t2,by rw[<-pF t3];exact yI (by omega),k _ _ _ s (t4 _ _ (rq t3 (qr rv qf))) uK⟩
    ·cases e
def Bw(i:Nat)(f:FA):FE:=λρ=>match q9 ρ i with
 |some _=>match f ρ with
  |some (es,ρ1)=>match q9 ρ1 i with
   |some ds=>if ds.length+es.length<=1000 then some (.non,putAt ρ1 i (ds++es))else none
   |none=>none
  |none=>none
 |none=>none
theorem JO{f:FA}(h:PE X e (tBM G.K "list" Ii (wy i) (yW (tFN G f) Dl))):PE X e (tF G (Bw i f)):=PE.weak h λσ H Q hh=>by
 obtain⟨F,ρ,H0,d,ρ',R,e,k⟩:=hh;unfold Bw at e;cases e0:q9 ρ i with
 |none=>simp only[e0]at e;cases e
 |some ds0=>
  simp only[e0]at e;rcases qc (f:=f) (ρ:=ρ)with e1|⟨x,ρ1,e1⟩<;>simp only[e1]at e
  ·cases e
  ·cases e2:q9 ρ1 i with
   |none=>simp only[e2]at e;cases e
   |some ds=>
    simp only[e2]at e;split at e
    ·rename_i hl;cases e;obtain⟨a,xs,s1,s2,s3,_⟩:=sm R e0;refine⟨.ref a,s1,.inl ⟨rfl,xs,SqL.of s2⟩,F,ρ,H0,x,ρ1,R,e1,λp ys H1 H1' s R' hp h0 hb ap rs=>?_⟩;obtain⟨a',xs',t1,t2,t3,t4⟩:=sm R' e2;rw[s1]at t1;cases t1;refine⟨a,p,xs',ys,rfl,rfl,t2,hp,?_,k _ _ _ s (t4 _ _ (rq t3 rs)) uK⟩;rw[<-pF t3,<- pF rs];exact sj hl
    ·cases e
def Oh(i:Nat):FE:=λρ=>match q9 ρ i with
 |some _=>some (.non,putAt ρ i [])
 |none=>none
theorem Ld(h:PE X e (Uv G.K "list" KG (wy i))):PE X e (tF G (Oh i)):=PE.weak h λσ H Q hh=>by
 obtain⟨F,ρ,H0,d,ρ',R,e,k⟩:=hh;unfold Oh at e;cases e0:q9 ρ i with
 |none=>simp only[e0]at e;cases e
 |some ds0=>simp only[e0]at e;cases e;obtain⟨a,xs,s1,s2,s3,s4⟩:=sm R e0;exact⟨.ref a,s1,.inl ⟨rfl,xs,SqL.of s2⟩,a,xs,rfl,rfl,s2,k _ _ _ (pL.refl _) (s4 _ _ qf) uK⟩
def V4(i:Nat):FE:=λρ=>match q9 ρ i with
 |some (d::ds)=>some (d,putAt ρ i ds)
 |_=>none
theorem zL{i:Int}(r:pE G H0 ds xs)(h:atI ds i=some d):∃v,atI xs i=some v/\Rep G H0 d v:=by
 unfold atI at h ⊢;rw[<-pF r];cases e:ixN ds.length i with
 |none=>rw[e]at h;cases h
 |some j=>rw[e]at h;exact uY r h
def EK(i:Nat)(f:FE):FE:=λρ=>match q9 ρ i with
 |some _=>match f ρ with
  |some (.int j,ρ1)=>match q9 ρ1 i with
   |some ds=>match atI ds j with
    |some d=>some (d,ρ1)
    |none=>none
   |none=>none
  |_=>none
 |none=>none
theorem QU(h:PE X e (tOp (NF G.K) (wy i) (tF G f))):PE X e (tF G (EK i f)):=PE.weak h λσ H Q hh=>by
 obtain⟨F,ρ,H0,d,ρ',R,e,k⟩:=hh;unfold EK at e;cases e9:q9 ρ i with
 |none=>simp only[e9]at e;cases e
 |some ds9=>
  simp only[e9]at e;obtain⟨a9,xs9,ev,_⟩:=sm R e9;split at e
  ·rename_i j ρ1 e1;cases e0:q9 ρ1 i with
   |none=>simp only[e0]at e;cases e
   |some ds=>
    simp only[e0]at e;cases e2:atI ds j with
    |none=>simp only[e2]at e;cases e
    |some x=>simp only[e2]at e;cases e;refine⟨.ref a9,ev,F,ρ,H0,_,_,R,e1,λu H1 H1' s R' r=>?_⟩;unfold Rep at r;subst r;obtain⟨a,xs,s1,s2,s3,s4⟩:=sm R' e0;rw[ev]at s1;cases s1;obtain⟨w,w1,w2⟩:=zL s3 e2;exact⟨_,xs,j,w,rfl,rfl,SqL.of s2,w1,k _ _ _ s R' w2⟩
  ·cases e
def cFz(i:Nat):FE:=λρ=>match ρ[i]? with
 |some (.ls ds)=>some (.lst ds,ρ.set i (.im (.lst ds)))
 |some (.dk ks ds)=>some (.dic ks ds,ρ.set i (.im (.dic ks ds)))
 |some (.im d)=>some (d,ρ)
 |_=>none
theorem pV.toIm{H:Hp}(R:pV G F σ ρ H0 H){s:Sl}{o:HO}(hi:ρ[i]?=some s)(hs:(σ[i]?).join=some (.ref p))(so:s.own=true)(hp:H p=some o)(h0:H0 p=none)(hb:F.B p=none)(r:Rep G (upd H0 p o) d (.ref p)):
  pV G F σ (ρ.set i (.im d)) (upd H0 p o) H where
 sub:=λb u e=>by
  by_cases hb:b=p
  ·subst hb;rw[pK]at e;cases e;exact hp
  ·rw[pM hb]at e;exact R.sub _ _ e
 g0:=R.g0.trans (pX h0 o)
 keep:=R.keep
 fr:=λb u e=>by
  by_cases hb':b=p
  ·subst hb';exact .inr hb
  ·rw[pM hb']at e;exact R.fr _ _ e
 am:=R.am
 len:=by rw[dc];exact R.len
 sl:=λj t e=>by
  rw[bC]at e;by_cases h:i=j
  ·subst h;rw[ah rfl]at e;split at e
   ·cases e;exact⟨_,hs,r⟩
   ·cases e
  ·rw[aj h]at e;refine(R.sl j t e).grow (pX h0 o) (λa u _ _ q=>q) λa u z to q q0=>?_;rw[pM (λy=>by subst y;exact R.ap j i t s a (λy=>h y.symm) e hi to so z hs)];exact q0
 ap:=λj k t u b hjk ej ek tj tk vj vk=>by
  have gen:∀{m:Nat} {x:Sl},(ρ.set i (.im d))[m]?=some x->x.own=true->ρ[m]?=some x:=λ{m x} e xo=>by
   rw[bC]at e;by_cases h:i=m
   ·subst h;rw[ah rfl]at e;split at e
    ·cases e;cases xo
    ·cases e
   ·rw[aj h]at e;exact e
  exact R.ap j k t u b hjk (gen ej tj) (gen ek tk) tj tk vj vk
theorem pV.toImD{H:Hp}(R:pV G F σ ρ H0 H){s:Sl}{o:HO}(hi:ρ[i]?=some s)(hs:(σ[i]?).join=some (.ref p))(so:s.own=true)(h0:H0 p=none)(hb:F.B p=none)(r:Rep G (upd H0 p o) d (.ref p)):
  pV G F σ (ρ.set i (.im d)) (upd H0 p o) (upd H p o) where
 sub:=λb u e=>by
  by_cases hb:b=p
  ·subst hb;rw[pK]at e ⊢;exact e
  ·rw[pM hb]at e ⊢;exact R.sub _ _ e
 g0:=R.g0.trans (pX h0 o)
 keep:=λb u e n=>by rw[pM (λz=>by subst z;rw[hb]at e;cases e)];exact R.keep b u e n
 fr:=λb u e=>by
  by_cases hb':b=p
  ·subst hb';exact .inr hb
  ·rw[pM hb']at e;exact R.fr _ _ e
 am:=λb hm=>by
  by_cases hb':b=p
  ·subst hb';exact⟨o,pK⟩
  ·rw[pM hb'];exact R.am b hm
 len:=by rw[dc];exact R.len
 sl:=λj t e=>by
  rw[bC]at e;by_cases h:i=j
  ·subst h;rw[ah rfl]at e;split at e
   ·cases e;exact⟨_,hs,r⟩
   ·cases e
  ·rw[aj h]at e;refine(R.sl j t e).grow (pX h0 o) (λa u z to q=>?_) λa u z to q q0=>?_
   ·rw[pM (λy=>by subst y;exact R.ap j i t s a (λy=>h y.symm) e hi to so z hs)];exact q
   ·rw[pM (λy=>by subst y;exact R.ap j i t s a (λy=>h y.symm) e hi to so z hs)];exact q0
 ap:=λj k t u b hjk ej ek tj tk vj vk=>by
  have gen:∀{m:Nat} {x:Sl},(ρ.set i (.im d))[m]?=some x->x.own=true->ρ[m]?=some x:=λ{m x} e xo=>by
   rw[bC]at e;by_cases h:i=m
   ·subst h;rw[ah rfl]at e;split at e
    ·cases e;cases xo
    ·cases e
   ·rw[aj h]at e;exact e
  exact R.ap j k t u b hjk (gen ej tj) (gen ek tk) tj tk vj vk
theorem UK(h:PE X e (wy i)):PE X e (tF G (cFz i)):=PE.weak (PE.ghost h) λσ H Q hh=>by
 obtain⟨F,ρ,H0,d,ρ',R,e,k⟩:=hh;unfold cFz at e;split at e
 ·rename_i ds e0;cases e;obtain⟨a,xs,h1,h2,h3,h4,h5⟩:=R.sl i _ e0;have rr:Rep G (upd H0 a (.lst xs)) (.lst ds) (.ref a):=wY pK (pE.mono (pX h3 _) _ _ h5);exact⟨_,tK h1,.inl (k _ _ _ (pX h3 _) (R.toIm e0 h1 rfl h2 h3 h4 rr) rr)⟩
 ·rename_i ks ds e0;cases e;obtain⟨a,xs,h1,h2,h3,h4,h5,h6⟩:=R.sl i _ e0;refine⟨_,tK h1,.inr ⟨a,_,h2,λo=>?_⟩⟩;have rr:Rep G (upd H0 a (.frz o (.dK (ks.zip xs)))) (.dic ks ds) (.ref a):=by unfold Rep;exact⟨a,o,xs,rfl,pK,h5,pE.mono (pX h3 _) _ _ h6⟩
  exact k _ _ _ (pX h3 _) (R.toImD e0 h1 rfl h3 h4 rr) rr
 ·rename_i d' e0;cases e;obtain⟨v,e2,e3⟩:=R.sl i _ e0;exact⟨v,tK e2,.inl (k _ _ _ (pL.refl _) R e3)⟩
 ·cases e
def Ds(i:Nat):FA:=λρ=>match ρ[i]? with
 |some (.ls ds)=>some (ds,ρ.set i .un)
 |_=>none
theorem Oi(h:PE X e (wy i)):PE X e (tFN G (Ds i)):=PE.weak h λσ H Q hh=>by
 obtain⟨F,ρ,H0,d,ρ',R,e,k⟩:=hh;unfold Ds at e;split at e
 ·rename_i ds e0;cases e;obtain⟨a,xs,h1,h2,h3,h4,h5⟩:=R.sl i _ e0;have gen:∀{m:Nat} {x:Sl},(ρ.set i .un)[m]?=some x->x.own=true->m≠i/\ρ[m]?=some x:=λ{m x} e xo=>by
   rw[bC]at e;by_cases h:i=m
   ·subst h;rw[ah rfl]at e;split at e
    ·cases e;cases xo
    ·cases e
   ·rw[aj h]at e;exact⟨λz=>h z.symm,e⟩
  have R':pV G F σ (ρ.set i .un) H0 H:={
   sub:=R.sub,g0:=R.g0,keep:=R.keep,fr:=R.fr,am:=R.am
   len:=by rw[dc];exact R.len
   sl:=λj t e=>by
    rw[bC]at e;by_cases h:i=j
    ·subst h;rw[ah rfl]at e;split at e
     ·cases e;trivial
     ·cases e
    ·rw[aj h]at e;exact R.sl j t e
   ap:=λj k t u b hjk ej ek tj tk vj vk=>R.ap j k t u b hjk (gen ej tj).2 (gen ek tk).2 tj tk vj vk }
  refine⟨_,tK h1,k a xs _ _ (pL.refl _) R' h2 h3 h4 (λj t ej to z=>?_) h5⟩;obtain⟨nj,ej'⟩:=gen ej to;exact R.ap j i t _ a nj ej' e0 to rfl z h1
 ·cases e
end
def spM(G:Bg)(g:List D->List D->Option (D×List D)):Sp:=λvs H Q _=>∃(a:Addr) (us xs:List V) (H0:Hp) (es ds:List D) (d:D) (es':List D),vs=.ref a::us/\H a=some (.lst xs)/\H0 a=none/\pL H0 H/\pE G H0 es xs/\pE G H0 ds us/\g es ds=some (d,es')/\
 ∀v xs' H0' H',pL H0 H0'->pL H0' H'->(∀b o,H b=some o->b≠a->H' b=some o)->(∀b o,H0' b=some o->H0 b=some o\/H b=none)->H0' a=none->H' a=some (.lst xs')->pE G H0' es' xs'->Rep G H0' d v->Q v H'
def stM(n:Nat)(es ds:List D):List Sl:=.pm es::stE (n - 1) ds
def zM(ρ:List Sl):Option (List D):=match ρ with
 |.pm es::_=>some es
 |_=>none
def fnM(np n:Nat)(f:FS):List D->List D->Option (D×List D):=λes ds=>if ds.length=np then match f (stM n es ds)with
 |some (.rt d ρ)=>match zM ρ with
  |some es'=>some (d,es')
  |none=>none
 |some (.rn xs ρ)=>match zM ρ with
  |some es'=>some (.lst xs,es')
  |none=>none
 |_=>none
 else none
theorem B9{es:List D}(h:zM ρ=some es):ρ[0]?=some (.pm es):=by
 unfold zM at h;split at h
 ·cases h;rfl
 ·cases h
variable{es':List D}
theorem FN{n:Nat}{f:FS}{es:List D}(h:fnM np n f es ds=some (d,es')):ds.length=np/\((∃ρ,f (stM n es ds)=some (.rt d ρ)/\ρ[0]?=some (.pm es'))\/∃xs ρ,f (stM n es ds)=some (.rn xs ρ)/\ρ[0]?=some (.pm es')/\d=.lst xs):=by
 unfold fnM at h;split at h
 ·rename_i hl;refine⟨hl,?_⟩;split at h
  ·rename_i x ρ e;cases e2:zM ρ with
   |none=>simp only[e2]at h;cases h
   |some q=>simp only[e2]at h;cases h;exact .inl ⟨ρ,e,B9 e2⟩
  ·rename_i x ρ e;cases e2:zM ρ with
   |none=>simp only[e2]at h;cases h
   |some q=>simp only[e2]at h;cases h;exact .inr ⟨x,ρ,e,B9 e2,rfl⟩
  ·cases h
 ·cases h
section
variable{X:Cx}{G:Bg}
theorem Oj{f:FS}{H:Hp}{Q:VK}(hN:np+1<=N.length)(h:spM G (fnM np N.length f) vs H Q E):tFS G f { nx:=λ_ H'=>Q .non H',rt:=Q } (L2.start N vs) H:=by
 obtain⟨a,us,xs,H0,es,ds,d,es',rfl,ha,h0,s,r1,r,e,k⟩:=h;obtain⟨hl,e1⟩:=FN e;have hul:us.length=np:=by rw[<-pF r];exact hl
 have gets:∀{i:Nat} {t:Sl},(stM N.length es ds)[i]?=some t->(i=0/\t=.pm es)\/t=.un\/∃(j:Nat) (d:D),i=j+1/\ds[j]?=some d/\t=.im d:=λ{i t} e=>by
  cases i with
  |zero=>cases e;exact .inl ⟨rfl,rfl⟩
  |succ j=>
   have e':(stE (N.length - 1) ds)[j]?=some t:=e;rcases BH e' with rfl|⟨d,e1,rfl⟩
   ·exact .inr (.inl rfl)
   ·exact .inr (.inr ⟨j,d,rfl,e1,rfl⟩)
 have R:pV G ⟨H0,H,[a]⟩ (L2.start N (.ref a::us)) (stM N.length es ds) H0 H:={
  sub:=s
  g0:=pL.refl _
  keep:=λb o e _=>e
  fr:=λb o e=>.inl e
  am:=λb hb=>by
   have eb:b=a:=by simpa using hb
   subst eb;exact⟨_,ha⟩
  len:=by unfold L2.start stM stE;simp only[au,af,bV,aB];have:=pF r;omega
  sl:=λi t e=>by
   rcases gets e with ⟨rfl,rfl⟩|rfl|⟨j,d,rfl,e1,rfl⟩
   ·exact⟨a,xs,wD rfl,ha,h0,by simp,r1⟩
   ·trivial
   ·obtain⟨v,e2,e3⟩:=uY r e1;exact⟨v,wD (by simpa using e2),e3⟩
  ap:=λi j t u b hij ei ej ht hu=>by
   rcases gets ei with ⟨rfl,rfl⟩|rfl|⟨_,_,_,_,rfl⟩
   ·rcases gets ej with ⟨rfl,rfl⟩|rfl|⟨_,_,_,_,rfl⟩
    ·exact ao rfl hij
    ·cases hu
    ·cases hu
   ·cases ht
   ·cases ht }
 have fin:∀{v:V} {σ':St} {ρ':List Sl} {H0' H':Hp},pL H0 H0'->pV G ⟨H0,H,[a]⟩ σ' ρ' H0' H'->ρ'[0]?=some (.pm es')->Rep G H0' d v->Q v H':=λs' R' e2 rv=>by
  obtain⟨a',ys,q1,q2,q3,q4,q5⟩:=R'.sl 0 _ e2;have ea:a'=a:=by simpa using q4
  subst ea;exact k _ ys _ _ s' R'.sub (λb o e n=>R'.keep b o e (by simpa using n)) R'.fr q3 q2 q5 rv
 rcases e1 with ⟨ρ,e1,e2⟩|⟨zs,ρ,e1,e2,rfl⟩
 ·exact⟨_,_,H0,_,R,e1,λv σ' H0' H' s' R' rv=>fin s' R' e2 rv,λ_=>rfl⟩
 ·refine⟨_,_,H0,_,R,e1,λp ys σ' H0' H' s' R' hp hp0 hb ap rs=>?_,λ_=>rfl⟩;exact fin (s'.trans (pX hp0 _)) (R'.freeze hp hp0 hb ap) e2 (wY pK (pE.mono (pX hp0 _) _ _ rs))
theorem UM{g:List D->List D->Option (D×List D)}(hg:∀es ds d,g es ds=some d->ds.length=np):∀vs H Q E,spM G g vs H Q E->vs.length=np+1:=λvs H Q E h=>by obtain⟨a,us,xs,H0,es,ds,d,es',rfl,_,_,_,_,r,e,_⟩:=h;rw[aB,<- pF r,hg _ _ _ e]
theorem Ol{n:Nat}{f:FS}:∀es ds d,fnM np n f es ds=some d->ds.length=np:=λ_ _ d h=>(FN (d:=d.1) (es':=d.2) h).1
theorem pV.call1{H:Hp}(R:pV G F σ ρ H0 H){s:Sl}{es:List D}{b:Addr}{zs:List V}(hi:ρ[i]?=some s)(hs:s.L=some es)(hb:(σ[i]?).join=some (.ref b))
  (s1:pL H0 H0') (s2:pL H0' H') (s3:∀c o,H c=some o->c≠b->H' c=some o) (fr:∀c o,H0' c=some o->H0 c=some o\/H c=none) (h0:H0' b=none) (hz:H' b=some (.lst zs)) (r:pE G H0' es' zs):
  pV G F σ (ρ.set i (s.putL es')) H0' H':=by
 have so:=Sl.L_own hs;obtain⟨b',u,e1,e2,e3,e4⟩:=(R.sl i s hi).at so;rw[hb]at e1;cases e1;exact {
  sub:=s2
  g0:=R.g0.trans s1
  keep:=λc o e n=>by
   refine s3 c o (R.keep c o e n) λz=>?_;subst z;rcases e4 with q|q
   ·rw[q]at e;cases e
   ·exact n q
  fr:=λc o e=>by
   rcases fr c o e with q|q
   ·exact R.fr c o q
   ·exact .inr (R.bNone q)
  am:=λc hc=>by
   by_cases z:c=b
   ·subst z;exact⟨_,hz⟩
   ·obtain⟨o,q⟩:=R.am c hc;exact⟨o,s3 c o q z⟩
  len:=by rw[dc];exact R.len
  sl:=λj t e=>by
   rw[bC]at e;by_cases h:i=j
   ·subst h;rw[ah rfl]at e;split at e
    ·cases e;rw[hb];have ok:=R.sl i s hi;rw[hb]at ok;cases s with
     |ls ds0=>obtain⟨c,xs,h1,h2,h3,h4,h5⟩:=ok;cases h1;exact⟨b,zs,rfl,hz,h0,h4,r⟩
     |pm ds0=>obtain⟨c,xs,h1,h2,h3,h4,h5⟩:=ok;cases h1;exact⟨b,zs,rfl,hz,h0,h4,r⟩
     |_=>cases hs
    ·cases e
   ·rw[aj h]at e;refine(R.sl j t e).grow s1 (λc w z to q=>s3 c w q λy=>?_) λc w z to q q0=>?_
    ·subst y;exact R.ap j i t s c (λy=>h y.symm) e hi to so z hb
    ·cases y:H0' c with
     |none=>rfl
     |some o=>
      rcases fr c o y with x|x
      ·rw[x]at q0;cases q0
      ·rw[x]at q;cases q
  ap:=λj k t u c hjk ej ek tj tk vj vk=>by
   have gen:∀{m:Nat} {x:Sl},(ρ.set i (s.putL es'))[m]?=some x->∃y,ρ[m]?=some y/\(x.own=true->y.own=true):=λ{m x} e=>by
    rw[bC]at e;by_cases h:i=m
    ·subst h;exact⟨s,hi,λ_=>so⟩
    ·rw[aj h]at e;exact⟨x,e,λq=>q⟩
   obtain⟨y,ey,oy⟩:=gen ej;obtain⟨z,ez,oz⟩:=gen ek;exact R.ap j k y z c hjk ey ez (oy tj) (oz tk) vj vk }
def p8(g:List D->List D->Option (D×List D))(i:Nat)(a:FA):FE:=λρ=>match q9 ρ i with
 |some _=>match a ρ with
  |some (ds,ρ1)=>match q9 ρ1 i with
   |some es=>match g es ds with
    |some (d,es')=>some (d,putAt ρ1 i es')
    |none=>none
   |none=>none
  |none=>none
 |none=>none
theorem QV{g:List D->List D->Option (D×List D)}{a:FA}(h:PE X e (zD (spM G g) [] E (yW (wy i) (tFA G a)))):PE X e (tF G (p8 g i a)):=PE.weak h λσ H Q hh=>by
 obtain⟨F,ρ,H0,d,ρ',R,e,k⟩:=hh;unfold p8 at e;cases e0:q9 ρ i with
 |none=>simp only[e0]at e;cases e
 |some ds0=>
  simp only[e0]at e;rcases qc (f:=a) (ρ:=ρ)with e1|⟨ds,ρ1,e1⟩<;>simp only[e1]at e
  ·cases e
  ·cases e2:q9 ρ1 i with
   |none=>simp only[e2]at e;cases e
   |some es=>
    simp only[e2]at e;cases e3:g es ds with
    |none=>simp only[e3]at e;cases e
    |some q=>
     obtain⟨d1,es'⟩:=q;simp only[e3]at e;cases e;obtain⟨b,xs,s1,s2,s3,_⟩:=sm R e0;refine⟨.ref b,s1,F,ρ,H0,ds,ρ1,R,e1,λys H1 H1' s R' rs=>?_⟩;obtain⟨s,es0,es1⟩:=uc e2;obtain⟨b',xs',t1,t2,t3,t4⟩:=(R'.sl i s es0).lst es1;rw[tK t1]at s1;cases s1;refine⟨b,ys,xs',H1,es,ds,d,es',?_,t2,t3,R'.sub,t4,rs,e3,λv zs H2 H2' u1 u2 u3 fr w0 w1 w2 w3=>?_⟩
     ·show V.ref b::ys++[]=_;rw[bA]
     ·refine k _ _ _ (pL.trans ‹pL H0 H1› u1) ?_ w3;unfold putAt;rw[es0];exact R'.call1 es0 es1 t1 u1 u2 u3 fr w0 w1 w2
def Walk(G:Bg)(J:It)(ds:List D)(H0:Hp):Prop:=∀(i:Nat) (H1 H1':Hp),pL H0 H1->pL H1 H1'->
 (∀d,ds[i]?=some d->J.go i H1'/\∀x H2',J.yld i H1' x H2'->∃H2,pL H1 H2/\pL H2 H2'/\pL H1' H2'/\(∀b o,H2 b=some o->H1 b=some o\/H1' b=none)/\Rep G H2 d x)/\(i=ds.length->J.stop i H1')
def tFI(G:Bg)(f:FA):TI:=λσ H R=>∃F ρ H0 ds ρ',pV G F σ ρ H0 H/\f ρ=some (ds,ρ')/\∀J H0' H',pL H0 H0'->pV G F σ ρ' H0' H'->Walk G J ds H0'->R J H'
theorem PI.weak{t t':TI}(h:PI X tg e t)(w:∀σ H R,t' σ H R->t σ H R):PI X tg e t':=λpins s σ H R I hq=>h pins s σ H R I (w _ _ _ hq)
theorem Ca(h:SqL G.K H0 a xs)(r:pE G H0 ds xs):Walk G (Itl G.K a) ds H0:=λi H1 H1' s s'=>by have h1:SqL G.K H1' a xs:=(s.trans s').seq h;refine⟨λd e=>?_,λhl=>⟨xs,h1,by rw[<-pF r,hl];exact aC _⟩⟩;obtain⟨v,e1,e2⟩:=uY r e;refine⟨⟨xs,v,h1,e1⟩,λx H2' y=>?_⟩;obtain⟨e3,e4⟩:=y;have e5:=e4 xs h1;rw[e1]at e5;cases e5;subst e3;exact⟨H1,pL.refl _,s',pL.refl _,λb o e=>.inl e,Rep.mono s _ _ e2⟩
theorem Le(h:SqT G.K H0 a xs)(r:pE G H0 ds xs):Walk G (Itt G.K a) ds H0:=λi H1 H1' s s'=>by have h1:SqT G.K H1' a xs:=SqT.mono (s.trans s') h;refine⟨λd e=>?_,λhl=>⟨xs,h1,by rw[<-pF r,hl];exact aC _⟩⟩;obtain⟨v,e1,e2⟩:=uY r e;refine⟨⟨xs,v,h1,e1⟩,λx H2' y=>?_⟩;obtain⟨e3,e4⟩:=y;have e5:=e4 xs h1;rw[e1]at e5;cases e5;subst e3;exact⟨H1,pL.refl _,s',pL.refl _,λb o e=>.inl e,Rep.mono s _ _ e2⟩
def iL(f:FE):FA:=λρ=>match f ρ with
 |some (.lst ds,ρ')=>some (ds,ρ')
 |some (.fzl ds,ρ')=>some (ds,ρ')
 |_=>none
def iT(f:FE):FA:=λρ=>match f ρ with
 |some (.tup ds,ρ')=>some (ds,ρ')
 |_=>none
theorem FP(h:PI X tg e (Kp G.K (tF G f))):PI X tg e (tFI G (iL f)):=PI.weak h λσ H R hh=>by
 obtain⟨F,ρ,H0,ds,ρ',R,e,k⟩:=hh;unfold iL at e;split at e
 ·rename_i ds' ρ1 e1;cases e;refine⟨F,ρ,H0,_,_,R,e1,λv H1 H1' s R' r=>?_⟩;unfold Rep at r;obtain⟨a,xs,rfl,r1,r2⟩:=r;exact⟨a,rfl,⟨xs,R'.sub.seq (SqL.of r1)⟩,k _ _ _ s R' (Ca (SqL.of r1) r2)⟩
 ·rename_i ds' ρ1 e1;cases e;refine⟨F,ρ,H0,_,_,R,e1,λv H1 H1' s R' r=>?_⟩;unfold Rep at r;obtain⟨a,xs,rfl,r1,r2⟩:=r;exact⟨a,rfl,⟨xs,R'.sub.seq r1⟩,k _ _ _ s R' (Ca r1 r2)⟩
 ·cases e
theorem Om(h:PI X tg e (Qf G.K (tF G f))):PI X tg e (tFI G (iT f)):=PI.weak h λσ H R hh=>by
 obtain⟨F,ρ,H0,ds,ρ',R,e,k⟩:=hh;unfold iT at e;split at e
 ·rename_i ds' ρ1 e1;cases e;refine⟨F,ρ,H0,_,_,R,e1,λv H1 H1' s R' r=>?_⟩;unfold Rep at r;obtain⟨a,xs,rfl,r1,r2⟩:=r;exact⟨a,rfl,⟨xs,SqT.mono R'.sub r1⟩,k _ _ _ s R' (Le r1 r2)⟩
 ·cases e
def yU(lo:Int)(n:Nat):List D:=(aL n).map λ(i:Nat)=>D.int (lo+(i:Int))
theorem Lf{lo:Int}{n:Nat}:Walk G (Itr lo n) (yU lo n) H0:=λi H1 H1' s s'=>by
 refine⟨λd e=>?_,λhl=>by show n<=i;rw[hl];simp[yU]⟩;unfold yU at e;rw[bb]at e;by_cases hi:i<n
 ·rw[kx hi]at e;cases e;refine⟨hi,λx H2' y=>?_⟩;obtain⟨e3,rfl⟩:=y;subst e3;exact⟨H1,pL.refl _,s',pL.refl _,λb o e=>.inl e,rS _⟩
 ·rw[eK (by simpa using hi)]at e;cases e
def iR1(f:FE):FA:=λρ=>match f ρ with
 |some (.int n,ρ')=>if -1000000<=n/\n<=1000000 then some (yU 0 n.toNat,ρ')else none
 |_=>none
theorem G2(h:PI X tg e (Pk (tFA G (aCons f qe)))):PI X tg e (tFI G (iR1 f)):=PI.weak h λσ H R hh=>by
 obtain⟨F,ρ,H0,ds,ρ',R,e,k⟩:=hh;unfold iR1 at e;split at e
 ·rename_i n ρ1 e1;split at e
  ·rename_i hn;cases e;refine⟨F,ρ,H0,[.int n],_,R,by unfold aCons;rw[e1];rfl,λxs H1 H1' s R' rs=>?_⟩;unfold pE at rs;obtain⟨v,r0,rfl,rv,rn⟩:=rs;unfold pE at rn;unfold Rep at rv;subst rn rv;exact⟨n,rfl,by omega,by omega,k _ _ _ s R' Lf⟩
  ·cases e
 ·cases e
def forL(g:FG)(b:FS):List D->FS
 |[],ρ=>some (.nx ρ)
 |d::r,ρ=>match g d ρ with
  |none=>none
  |some ρ1=>match b ρ1 with
   |some (.nx ρ2)=>forL g b r ρ2
   |some (.ct ρ2)=>forL g b r ρ2
   |some (.bk ρ2)=>some (.nx ρ2)
   |some (.rt d ρ2)=>some (.rt d ρ2)
   |some (.rn d ρ2)=>some (.rn d ρ2)
   |none=>none
def u4(s:FA)(g:FG)(b:FS):FS:=λρ=>match s ρ with
 |some (ds,ρ')=>forL g b ds ρ'
 |none=>none
theorem On{n:Nat}{s:FA}{g:FG}{b:FS}(h:PS X st (Qh (tFI G s) (tFG G n g) (tFS G b))):PS X st (tFS G (u4 s g b)):=PS.weak h λE σ H hh=>by
 obtain⟨F,ρ,H0,o,R,e,k,k2⟩:=hh;unfold u4 at e;rcases qc (f:=s) (ρ:=ρ)with e1|⟨ds,ρ1,e1⟩<;>simp only[e1]at e
 ·cases e
 ·refine⟨F,ρ,H0,ds,ρ1,R,e1,λJ H1 H1' s1 R1 wk=>?_⟩;refine⟨λi m σ H=>m=ds.length - i/\i<=ds.length/\∃ρi Hi,pL H1 Hi/\pV G F σ ρi Hi H/\forL g b (ds.drop i) ρi=some o,⟨_,rfl,bR _,ρ1,H1,pL.refl _,R1,e⟩,?_⟩;rintro i m σi Hi' ⟨rfl,hi,ρi,Hi,si,Ri,ei⟩;by_cases hlt:i<ds.length
  ·have ed:ds.drop i=ds[i]::ds.drop (i+1):=gv hlt;rw[ed]at ei;unfold forL at ei;obtain⟨go,yl⟩:=(wk i Hi Hi' si Ri.sub).1 ds[i] (aY hlt);refine .inr ⟨go,λσ' H'=>∃ρi Hi,pL H1 Hi/\pV G F σ' ρi Hi H'/\forL g b (ds.drop (i+1)) ρi=some o,λσ' H' q=>⟨ds.length - (i+1),by omega,rfl,hlt,q⟩,λx H' y=>?_⟩;obtain⟨H2,t1,t2,t3,t4,t5⟩:=yl x H' y;have R2:=Ri.grow t3 t1 t2 t4;cases e2:g ds[i] ρi with
   |none=>simp only[e2]at ei;cases ei
   |some ρ2=>
    simp only[e2]at ei;refine⟨F,ρi,H2,_,ρ2,R2,t5,e2,λσ3 _ R3=>?_⟩;have kk:=k.back (s1.trans (si.trans t1));cases e3:b ρ2 with
    |none=>simp only[e3]at ei;cases ei
    |some q=>
     refine⟨F,ρ2,H2,q,R3,e3,?_,λ_=>rfl⟩;cases q with
     |nx ρ3=>simp only[e3]at ei;exact λσ' H0' H' s' R'=>⟨ρ3,H0',si.trans (t1.trans s'),R',ei⟩
     |ct ρ3=>simp only[e3]at ei;exact λσ' H0' H' s' R'=>⟨ρ3,H0',si.trans (t1.trans s'),R',ei⟩
     |bk ρ3=>simp only[e3]at ei;cases ei;exact kk
     |rt d ρ3=>simp only[e3]at ei;cases ei;exact kk
     |rn d ρ3=>simp only[e3]at ei;cases ei;exact kk
  ·have ez:ds.drop i=[]:=j1 (by omega);rw[ez]at ei;unfold forL at ei;cases ei;exact .inl ⟨(wk i Hi Hi' si Ri.sub).2 (by omega),k _ _ _ (s1.trans si) Ri⟩
end
def Sl.cap:Sl->Sl
 |.im d=>.im d
 |.ls ds=>.pm ds
 |.pm ds=>.pm ds
 |_=>.un
def zN(k:Nat)(cap:List Nat)(ρ:List Sl):List Sl:=br k .un++cap.map λj=>((ρ[j]?).getD .un).cap
def sH:List Nat->List Sl->List Sl->Option (List Sl)
 |[],_,ρ=>some ρ
 |j::cap,t::ts,ρ=>match q9 ρ j with
  |some _=>match t with
   |.pm ds=>sH cap ts (putAt ρ j ds)
   |_=>none
  |none=>sH cap ts ρ
 |_::_,[],_=>none
def u5(k:Nat)(cap:List Nat)(g:FG)(ft:FT)(fe:FE):List D->List Sl->Option (List D×List Sl)
 |[],ρ=>some ([],ρ)
 |d::r,ρ=>match g d (zN k cap ρ)with
  |none=>none
  |some ρ1=>match ft ρ1 with
   |some (true,ρ2)=>match fe ρ2 with
    |some (x,ρ3)=>match sH cap (ρ3.drop k) ρ with
     |some ρ'=>match u5 k cap g ft fe r ρ' with
      |some (xs,ρ'')=>some (x::xs,ρ'')
      |none=>none
     |none=>none
    |none=>none
   |some (false,ρ2)=>match sH cap (ρ2.drop k) ρ with
    |some ρ'=>u5 k cap g ft fe r ρ'
    |none=>none
   |none=>none
def pH(k:Nat)(cap:List Nat)(s:FA)(g:FG)(ft:FT)(fe:FE):FA:=λρ=>match s ρ with
 |some (ds,ρ')=>if ds.length<=1000 then u5 k cap g ft fe ds ρ' else none
 |none=>none
def qg:FT:=λρ=>some (true,ρ)
theorem w6:∀{cap:List Nat} {ts ρ ρ':List Sl},sH cap ts ρ=some ρ'->ρ'.length=ρ.length/\
  (∀(j:Nat) (s':Sl),ρ'[j]?=some s'->∃s,ρ[j]?=some s/\((s'=s/\(s.L≠none->j∉cap))\/∃(m:Nat) (ds ds0:List D),cap[m]?=some j/\ts[m]?=some (Sl.pm ds)/\s.L=some ds0/\s'=s.putL ds))
 |[],ts,ρ,ρ',h=>by cases h;exact⟨rfl,λj s' e=>⟨s',e,.inl ⟨rfl,λ_ z=>by cases z⟩⟩⟩
 |j0::cap,[],ρ,ρ',h=>by cases h
 |j0::cap,t::ts,ρ,ρ',h=>by
  unfold sH at h;cases e0:q9 ρ j0 with
  |none=>
   simp only[e0]at h;obtain⟨h1,h2⟩:=w6 h;refine⟨h1,λj s' e=>?_⟩;obtain⟨s,e1,q⟩:=h2 j s' e;refine⟨s,e1,?_⟩;rcases q with ⟨rfl,q⟩|⟨m,ds,ds0,q1,q2,q3,q4⟩
   ·refine .inl ⟨rfl,λz y=>?_⟩;rcases aH.mp y with y|y
    ·subst y;unfold q9 at e0;rw[e1]at e0;exact z e0
    ·exact q z y
   ·exact .inr ⟨m+1,ds,ds0,q1,q2,q3,q4⟩
  |some ds1=>
   simp only[e0]at h;cases t with
   |pm ds=>
    simp only at h;obtain⟨s0,e1,e2⟩:=uc e0;unfold putAt at h;rw[e1]at h;simp only at h;obtain⟨h1,h2⟩:=w6 h;refine⟨by rw[h1,dc],λj s' e=>?_⟩;obtain⟨s,e3,q⟩:=h2 j s' e;by_cases hj:j0=j
    ·subst hj;rw[bC,ah rfl]at e3;split at e3
     ·cases e3;refine⟨s0,e1,.inr ?_⟩;rcases q with ⟨rfl,q⟩|⟨m,ds',ds0,q1,q2,q3,q4⟩
      ·exact⟨0,ds,ds1,rfl,rfl,e2,rfl⟩
      ·refine⟨m+1,ds',ds1,q1,q2,e2,?_⟩;rw[q4];cases s0<;>rfl
     ·cases e3
    ·rw[bC,aj hj]at e3;refine⟨s,e3,?_⟩;rcases q with ⟨rfl,q⟩|⟨m,ds',ds0,q1,q2,q3,q4⟩
     ·refine .inl ⟨rfl,λz y=>?_⟩;rcases aH.mp y with y|y
      ·exact hj y.symm
      ·exact q z y
     ·exact .inr ⟨m+1,ds',ds0,q1,q2,q3,q4⟩
   |_=>cases h
def Dt(cap:List Nat)(σ:St)(ρ:List Sl):List Addr:=cap.filterMap λj=>match q9 ρ j,(σ[j]?).join with
 |some _,some (.ref a)=>some a
 |_,_=>none
theorem xY{cap:List Nat}:a∈Dt cap σ ρ ↔ ∃j∈cap,(∃ds,q9 ρ j=some ds)/\(σ[j]?).join=some (.ref a):=by
 unfold Dt;rw[gS];constructor
 ·rintro⟨j,hj,e⟩;refine⟨j,hj,?_⟩;split at e
  ·rename_i ds a' e1 e2;cases e;exact⟨⟨ds,e1⟩,e2⟩
  ·cases e
 ·rintro⟨j,hj,⟨ds,e1⟩,e2⟩;refine⟨j,hj,?_⟩;rw[e1,e2]
variable{H1':Hp}{ft:FT}{fe:FE}
section
variable{X:Cx}{G:Bg}{F:Fr}{σ:St}{ρ:List Sl}{H0 H:Hp}
theorem Cb{k:Nat}{cap:List Nat}{s:Sl}(h:(zN k cap ρ)[i]?=some s):s=.un\/∃m j,i=k+m/\cap[m]?=some j/\s=((ρ[j]?).getD .un).cap:=by
 unfold zN at h;by_cases hi:i<k
 ·rw[dR (by simpa using hi),gy,ah hi]at h;cases h;exact .inl rfl
 ·rw[dQ (by simpa using lC hi),bV,bb]at h;cases e:cap[i - k]? with
  |none=>rw[e]at h;cases h
  |some j=>rw[e]at h;cases h;exact .inr ⟨i - k,j,by omega,e,rfl⟩
theorem zO{k:Nat}{cap:List Nat}{m:Nat}(h:cap[m]?=some j):((tJ k cap σ)[k+m]?).join=(σ[j]?).join:=by unfold tJ;rw[dQ (by simp),bV,show k+m - k=m by omega,bb,h];rfl
theorem pV.cap(R:pV G F σ ρ H0 H)(k:Nat)(cap:List Nat)(nd:cap.Nodup):pV G ⟨H0,H,Dt cap σ ρ⟩ (tJ k cap σ) (zN k cap ρ) H0 H where
 sub:=R.sub
 g0:=pL.refl _
 keep:=λb o e _=>e
 fr:=λb o e=>.inl e
 am:=λa ha=>by obtain⟨j,hj,⟨ds,e1⟩,e2⟩:=xY.mp ha;obtain⟨s,e3,e4⟩:=uc e1;obtain⟨a',xs,h1,h2,_⟩:=(R.sl j s e3).lst e4;rw[e2]at h1;cases h1;exact⟨_,h2⟩
 len:=by unfold tJ zN;rw[au,au,bV,bV,af,af]
 sl:=λi s e=>by
  rcases Cb e with rfl|⟨m,j,rfl,e1,rfl⟩
  ·trivial
  ·rw[zO e1];cases e2:ρ[j]? with
   |none=>trivial
   |some s=>
    have ok:=R.sl j s e2;have mem:∀{a:Addr} {ds:List D},s.L=some ds->(σ[j]?).join=some (.ref a)->a∈Dt cap σ ρ:=λh1 h2=>xY.mpr ⟨j,bF e1,⟨_,by unfold q9;rw[e2];exact h1⟩,h2⟩;cases s with
    |un=>trivial
    |im d=>exact ok
    |ls ds=>obtain⟨a,xs,h1,h2,h3,h4,h5⟩:=ok;exact⟨a,xs,h1,h2,h3,mem rfl h1,h5⟩
    |pm ds=>obtain⟨a,xs,h1,h2,h3,h4,h5⟩:=ok;exact⟨a,xs,h1,h2,h3,mem rfl h1,h5⟩
    |dk ks ds=>trivial
    |ob c ns ds=>trivial
 ap:=λi i' s t a hii e e' so to v v'=>by
  rcases Cb e with rfl|⟨m,j,rfl,e1,rfl⟩
  ·cases so
  rcases Cb e' with rfl|⟨m',j',rfl,e1',rfl⟩
  ·cases to
  rw[zO e1]at v;rw[zO e1']at v';have own:∀{j:Nat},(((ρ[j]?).getD Sl.un).cap).own=true->∃s,ρ[j]?=some s/\s.own=true:=λ{j} h=>by
   cases z:ρ[j]? with
   |none=>rw[z]at h;cases h
   |some s=>rw[z]at h;refine⟨s,rfl,?_⟩;cases s<;>first|rfl|cases h
  obtain⟨s,z,zo⟩:=own so;obtain⟨s',z',zo'⟩:=own to;by_cases hj:j=j'
  ·subst hj;have:m=m':=(List.getElem?_inj (bE.mp e1).1 nd).mp (e1.trans e1'.symm);exact hii (by rw[this])
  ·exact R.ap j j' s s' a hj z z' zo zo' v v'
theorem pV.uncap(R:pV G F σ ρ H0 H){k:Nat}{cap:List Nat}{σ4:St}{ρ4:List Sl}(R4:pV G ⟨H0,H,Dt cap σ ρ⟩ σ4 ρ4 H1 H1')(hd:σ4.drop k=(tJ k cap σ).drop k)(hu:sH cap (ρ4.drop k) ρ=some ρ'):pV G F σ ρ' H1 H1':=by
 obtain⟨hl,hc⟩:=w6 hu;have at4:∀{m j:Nat},cap[m]?=some j->(σ4[k+m]?).join=(σ[j]?).join:=λ{m j} e=>by
  have q:(σ4.drop k)[m]?=((tJ k cap σ).drop k)[m]?:=by rw[hd]
  rw[dt,dt]at q;rw[q];exact zO e
 have nA:∀{j:Nat} {s:Sl} {a:Addr},ρ[j]?=some s->s.own=true->(σ[j]?).join=some (.ref a)->(s.L≠none->j∉cap)->a∉Dt cap σ ρ:=λ{j s a} e so z hn ha=>by
  obtain⟨i,hi,⟨ds,e1⟩,e2⟩:=xY.mp ha;obtain⟨t,e3,e4⟩:=uc e1;by_cases hij:i=j
  ·subst hij;rw[e]at e3;cases e3;exact hn (by rw[e4];simp) hi
  ·exact R.ap i j t s a hij e3 e (Sl.L_own e4) so e2 z
 have hA:∀a∈Dt cap σ ρ,F.B a=none\/a∈F.A:=λa ha=>by obtain⟨i,hi,⟨ds,e1⟩,e2⟩:=xY.mp ha;obtain⟨t,e3,e4⟩:=uc e1;obtain⟨a',u,h1,h2,h3,h4⟩:=(R.sl i t e3).at (Sl.L_own e4);rw[e2]at h1;cases h1;exact h4
 have own':∀{j:Nat} {s':Sl},ρ'[j]?=some s'->s'.own=true->∃s,ρ[j]?=some s/\s.own=true:=λ{j s'} e so=>by
  obtain⟨s,e1,q⟩:=hc j s' e;rcases q with ⟨rfl,q⟩|⟨m,ds,ds0,q1,q2,q3,q4⟩
  ·exact⟨s',e1,so⟩
  ·exact⟨s,e1,Sl.L_own q3⟩
 exact {
  sub:=R4.sub
  g0:=R.g0.trans R4.g0
  keep:=λb o e n=>by
   refine R4.keep b o (R.keep b o e n) λha=>?_;rcases hA b ha with q|q
   ·rw[q]at e;cases e
   ·exact n q
  fr:=λb o e=>by
   rcases R4.fr b o e with q|q
   ·exact R.fr b o q
   ·exact .inr (R.bNone q)
  am:=λa ha=>by
   obtain⟨o,q⟩:=R.am a ha;by_cases z:a∈Dt cap σ ρ
   ·exact R4.am a z
   ·exact⟨o,R4.keep a o q z⟩
  len:=by rw[hl];exact R.len
  sl:=λj s' e=>by
   obtain⟨s,e1,q⟩:=hc j s' e;rcases q with ⟨rfl,q⟩|⟨m,ds,ds0,q1,q2,q3,q4⟩
   ·refine(R.sl j s' e1).grow R4.g0 (λa u z so y=>R4.keep a u y (nA e1 so z q)) λa u z so y y0=>?_;cases w:H1 a with
    |none=>rfl
    |some o=>
     rcases R4.fr a o w with x|x
     ·have x':H0 a=some o:=x;rw[x']at y0;cases y0
     ·have x':H a=none:=x;rw[x']at y;cases y
   ·rw[dt]at q2;obtain⟨a,xs,h1,h2,h3,h4,h5⟩:=R4.sl _ _ q2;rw[at4 q1]at h1;have ok:=R.sl j s e1;subst q4;cases s with
    |ls ds1=>obtain⟨a',xs',g1,g2,g3,g4,g5⟩:=ok;rw[h1]at g1;cases g1;exact⟨a,xs,h1,h2,h3,g4,h5⟩
    |pm ds1=>obtain⟨a',xs',g1,g2,g3,g4,g5⟩:=ok;rw[h1]at g1;cases g1;exact⟨a,xs,h1,h2,h3,g4,h5⟩
    |_=>cases q3
  ap:=λi j s t a hij ei ej so to v v'=>by
   obtain⟨s0,z,zo⟩:=own' ei so;obtain⟨t0,y,yo⟩:=own' ej to;exact R.ap i j s0 t0 a hij z y zo yo v v' }
theorem xZ{k:Nat}{cap:List Nat}{ts:List Sl}(h:Apart σ ρ p)(hu:sH cap ts ρ=some ρ'):Apart σ ρ' p:=λi s' e so=>by
 obtain⟨s,e1,q⟩:=(w6 hu).2 i s' e;rcases q with ⟨rfl,q⟩|⟨m,ds,ds0,q1,q2,q3,q4⟩
 ·exact h i s' e1 so
 ·exact h i s e1 (Sl.L_own q3)
inductive CI(G:Bg) (F:Fr) (σ:St) (H1:Hp) (p:Addr) (k:Nat) (cap:List Nat) (g:FG) (ft:FT) (fe:FE) (ds es:List D) (ρ':List Sl) (i m:Nat) (acc:List V) (H2:Hp):Prop
 |mk (ρi:List Sl) (Hi:Hp) (dn rest:List D):m=ds.length - i->i<=ds.length->pL H1 Hi->pV G F σ ρi Hi H2->H2 p=some (.lst acc)->Hi p=none->Apart σ ρi p->pE G Hi dn acc->dn.length<=i->u5 k cap g ft fe (ds.drop i) ρi=some (rest,ρ')->es=dn++rest->CI G F σ H1 p k cap g ft fe ds es ρ' i m acc H2
theorem EL{k:Nat}{cap:List Nat}{s:FA}{g:FG}(nd:cap.Nodup):∀σ H Q,tFN G (pH k cap s g ft fe) σ H Q->AY (tFI G s) (tFG G k g) (tFT G ft) (tF G fe) k cap σ H Q:=λσ H Q hh=>by
 obtain⟨F,ρ,H0,es,ρ',R,e,kk⟩:=hh;unfold pH at e;rcases qc (f:=s) (ρ:=ρ)with e1|⟨ds,ρ1,e1⟩<;>simp only[e1]at e
 ·cases e
 ·split at e
  ·rename_i hlen;refine⟨F,ρ,H0,ds,ρ1,R,e1,λJ H1 H1' s1 R1 wk p hp=>?_⟩;refine⟨CI G F σ H1 p k cap g ft fe ds es ρ',
    ⟨_,ρ1,H1,[],es,rfl,bR _,pL.refl _,R1.newOwn hp _,pK,R1.h0none hp,R1.apart hp,qf,aC _,e,rfl⟩,?_⟩
   rintro i m acc H2 ⟨ρi,Hi,dn,rest,rfl,hi,si,Ri,hp2,hp0,apt,rs,hdn,ei,rfl⟩;by_cases hlt:i<ds.length
   ·have ed:ds.drop i=ds[i]::ds.drop (i+1):=gv hlt;rw[ed]at ei;unfold u5 at ei;obtain⟨go,yl⟩:=(wk i Hi H2 si Ri.sub).1 ds[i] (aY hlt);refine .inr ⟨go,λx H3 y=>?_⟩;obtain⟨Hj,t1,t2,t3,t4,t5⟩:=yl x H3 y;have R2:=Ri.grow t3 t1 t2 t4;have hp3:H3 p=some (.lst acc):=t3 _ _ hp2;have hpj:Hj p=none:=by
     cases w:Hj p with
     |none=>rfl
     |some o=>
      rcases t4 p o w with z|z
      ·rw[hp0]at z;cases z
      ·rw[hp2]at z;cases z
    have RC:=R2.cap k cap nd;have npA:p∉Dt cap σ ρi:=λz=>by obtain⟨j,_,⟨ds',q1⟩,q2⟩:=xY.mp z;obtain⟨t,q3,q4⟩:=uc q1;exact apt j t q3 (Sl.L_own q4) q2
    cases e2:g ds[i] (zN k cap ρi)with
    |none=>simp only[e2]at ei;cases ei
    |some ρ2=>
     simp only[e2]at ei;refine⟨_,_,Hj,ds[i],ρ2,RC,t5,e2,λσ4 hd4 R4=>⟨hd4,?_⟩⟩;rcases qc (f:=ft) (ρ:=ρ2)with e3|⟨b,ρ3,e3⟩
     ·simp only[e3]at ei;cases ei
     ·refine⟨_,ρ2,Hj,b,ρ3,R4,e3,λH5 H5' s5 R5=>?_⟩;have keepP:∀{σ':St} {ρ'':List Sl} {Ha Ha':Hp},pV G ⟨Hj,H3,Dt cap σ ρi⟩ σ' ρ'' Ha Ha'->Ha' p=some (.lst acc)/\Ha p=none:=λRz=>by
       refine⟨Rz.keep p _ hp3 npA,?_⟩;refine Option.eq_none_iff_forall_ne_some.mpr λo w2=>?_;rcases Rz.fr p o w2 with z|z
       ·have z':Hj p=some o:=z;rw[hpj]at z';cases z'
       ·have z':H3 p=none:=z;rw[hp3]at z';cases z'
      cases b with
      |false=>
       simp only[e3]at ei;refine Ft ?_;cases e4:sH cap (ρ3.drop k) ρi with
       |none=>simp only[e4]at ei;cases ei
       |some ρn=>simp only[e4]at ei;obtain⟨w1,w2⟩:=keepP R5;exact⟨ds.length - (i+1),by omega,ρn,H5,dn,rest,rfl,hlt,si.trans (t1.trans s5),R2.uncap R5 hd4 e4,w1,w2,xZ (k:=k) apt e4,pE.mono (t1.trans s5) _ _ rs,by omega,ei,rfl⟩
      |true=>
       simp only[e3]at ei;refine Fu ?_;rcases qc (f:=fe) (ρ:=ρ3)with e5|⟨x5,ρ5,e5⟩
       ·simp only[e5]at ei;cases ei
       ·simp only[e5]at ei;refine⟨_,ρ3,H5,x5,ρ5,R5,e5,λv H6 H6' s6 R6 rv=>?_⟩;obtain⟨w1,w2⟩:=keepP R6;cases e4:sH cap (ρ5.drop k) ρi with
        |none=>simp only[e4]at ei;cases ei
        |some ρn=>
         simp only[e4]at ei;cases e6:u5 k cap g ft fe (ds.drop (i+1)) ρn with
         |none=>simp only[e6]at ei;cases ei
         |some q=>
          obtain⟨rest',ρz⟩:=q;simp only[e6]at ei;cases ei;have Rn:=R2.uncap R6 hd4 e4;have lacc:acc.length=dn.length:=(pF rs).symm;refine⟨acc,w1,yI (by omega),ds.length - (i+1),by omega,ρn,H6,dn++[x5],rest',rfl,hlt,si.trans (t1.trans (s5.trans s6)),?_,pK,w2,xZ (k:=k) apt e4,rq (pE.mono (t1.trans (s5.trans s6)) _ _ rs) (qr rv qf),by rw[au,bP];omega,e6,by rw[bq];rfl⟩;exact {
           sub:=λb o e=>by rw[pM (λz=>by rw[z,w2]at e;cases e)];exact Rn.sub b o e
           g0:=Rn.g0
           keep:=λb o e n=>by rw[pM (λz=>by subst z;rw[R1.bNone hp]at e;cases e)];exact Rn.keep b o e n
           fr:=Rn.fr
           am:=λb hb=>by
            by_cases z:b=p
            ·subst z;exact⟨_,pK⟩
            ·rw[pM z];exact Rn.am b hb
           len:=Rn.len
           sl:=λj t ej=>(Rn.sl j t ej).grow (pL.refl _) (λb u z to q=>by rw[pM (λy=>xZ (k:=k) apt e4 j t ej to (by rw[z,y]))];exact q) λb u _ _ _ q=>q
           ap:=Rn.ap }
   ·have ez:ds.drop i=[]:=j1 (by omega);rw[ez]at ei;unfold u5 at ei;cases ei;rw[bA]at kk;exact .inl ⟨(wk i Hi H2 si Ri.sub).2 (by omega),kk p acc Hi H2 (s1.trans si) Ri hp2 hp0 (R1.bNone hp) apt rs⟩
  ·cases e
theorem Lg{k:Nat}{cap:List Nat}{s:FA}{g:FG}(nd:cap.Nodup)(h:PE X e (AY (tFI G s) (tFG G k g) (tFT G ft) (tF G fe) k cap)):PE X e (tFN G (pH k cap s g ft fe)):=PE.weak h (EL nd)
theorem Lh:PIf X [] (tFT G qg):=λpins s σ H Q I h=>by obtain⟨F,ρ,H0,b,ρ',R,e,k⟩:=h;cases e;exact NN pins s σ H Q I (k _ _ (pL.refl _) R)
end
def sq:D->Bool
 |.non=>true|.bl _=>true|.int _=>true|.str _=>true|_=>false
def vD:D->V
 |.non=>.non|.bl b=>.bl b|.int i=>.int i|.str x=>.str x|_=>.non
variable{r':R2}{g':D->D->Option D}{neg:Bool}{r:List V->Hp->VK->Prop}
section
variable{X:Cx}{G:Bg}{H:Hp}
theorem uj{v:V}(h:Rep G H d v)(f:sq d=true):v=vD d:=by cases d<;>first|(unfold Rep at h;exact h)|cases f
theorem zP(f:sq d=true):∀H,Rep G H d (vD d):=λH=>by cases d<;>first|(unfold Rep;rfl)|cases f
theorem Aw:∀{ds:List D} {xs:List V},pE G H ds xs->ds.all sq=true->xs=ds.map vD
 |[],xs,h,f=>by unfold pE at h;exact h
 |d::ds,xs,h,f=>by unfold pE at h;obtain⟨v,r,rfl,h1,h2⟩:=h;rw[fo,aF]at f;rw[aG,uj h1 f.1,Aw h2 f.2]
theorem FQ(f:sq d=true):yX (vD d)=true:=by cases d<;>first|rfl|cases f
theorem DW:∀{ds:List D},ds.all sq=true->(ds.map vD).all yX=true
 |[],_=>rfl
 |d::ds,f=>by rw[fo,aF]at f;rw[aG,fo,FQ f.1,DW f.2];rfl
theorem OpR.or{f:aa->aa->Sem aa}{r:R2}(h:OpR X f r)(h':OpR X f r'):OpR X f (λx y H Q=>r x y H Q\/r' x y H Q):=λpins s σ H x y v u Q I rx ry q=>q.elim (h pins s σ H x y v u Q I rx ry) (h' pins s σ H x y v u Q I rx ry)
theorem OpD.or{r:R2}{g:D->D->Option D}(h:OpD G r g)(h':OpD G r' g'):OpD G (λx y H Q=>r x y H Q\/r' x y H Q) (λx y=>match g x y with|some z=>some z|none=>g' x y):=λx y z H0 H v u Q e s rx ry k=>by
 cases e1:g x y with
 |some w=>simp only[e1]at e;cases e;exact .inl (h x y _ H0 H v u Q e1 s rx ry k)
 |none=>simp only[e1]at e;exact .inr (h' x y z H0 H v u Q e s rx ry k)
def dI(C:Int->Int->Bool)(g:Int->Int->D):D->D->Option D
 |.int a,.int b=>if C a b=true then some (g a b)else none
 |_,_=>none
theorem Iu{C:Int->Int->Bool}{C':Int->Int->Prop}{g:Int->Int->D}{g':Int->Int->V}(hC:∀a b,C a b=true->C' a b)(hf:∀a b,sq (g a b)=true/\vD (g a b)=g' a b):OpD G (rI C' g') (dI C g):=λx y z H0 H v u Q e s rx ry k=>by
 unfold dI at e;split at e
 ·rename_i a b;split at e
  ·rename_i hc;cases e;unfold Rep at rx ry;exact⟨a,b,rx,ry,hC _ _ hc,by rw[<-(hf a b).2];exact k _ λH0' _=>zP (hf a b).1 H0'⟩
  ·cases e
 ·cases e
theorem Ax{g:Int->Int->D}{g':Int->Int->V}(hf:∀a b,sq (g a b)=true/\vD (g a b)=g' a b):OpD G (rI0 g') (dI (λ_ _=>true) g):=λx y z H0 H v u Q e s rx ry k=>by
 unfold dI at e;split at e
 ·rename_i a b;split at e
  ·cases e;unfold Rep at rx ry;exact⟨a,b,rx,ry,by rw[<-(hf a b).2];exact k _ λH0' _=>zP (hf a b).1 H0'⟩
  ·cases e
 ·cases e
def qO:=dI (λ_ _=>true) λa b=>.int (a+b)
def x8:=dI (λ_ _=>true) λa b=>.int (a - b)
def w9(a:Int):Bool:=decide (-(2 ^ 64)<a)&&decide (a<2 ^ 64)
def sZ:=dI (λa b=>w9 a||w9 b) λa b=>.int (a * b)
def ua:=dI (λ_ b=>decide (0<b)) λa b=>.int (a % b)
def yY:=dI (λ_ b=>decide (0<b)&&decide (b<1073741824)) λa b=>.int (a / b)
def Li:=dI (λa b=>decide (0<=b)&&decide (b<=1000000)&&decide (a.natAbs<2 ^ 64)) λa b=>.int (a ^ b.toNat)
def Bx:=dI (λ_ _=>true) λa b=>.bl (decide (a<b))
def va:=dI (λ_ _=>true) λa b=>.bl (decide (a<=b))
def Du:=dI (λ_ _=>true) λa b=>.bl (decide (b<a))
def QW:=dI (λ_ _=>true) λa b=>.bl (decide (b<=a))
theorem QX:OpD G (rI0 λi j=>.int (i+j)) qO:=Ax λ_ _=>⟨rfl,rfl⟩
theorem QY:OpD G (rI0 λi j=>.int (i - j)) x8:=Ax λ_ _=>⟨rfl,rfl⟩
theorem QZ:OpD G (rI Nr λi j=>.int (i * j)) sZ:=Iu (λa b h=>by
 unfold w9 at h;simp only[gZ,aF,bw]at h;exact h) λ_ _=>⟨rfl,rfl⟩
theorem Q0:OpD G (rI (λ_ j=>0<j) λi j=>.int (i % j)) ua:=Iu (λa b h=>by simpa using h) λ_ _=>⟨rfl,rfl⟩
theorem Q1:OpD G (rI Qj λi j=>.int (i / j)) yY:=Iu (λa b h=>by unfold Qj;simpa using h) λ_ _=>⟨rfl,rfl⟩
theorem Q2:OpD G (rI Ug λi j=>.int (i ^ j.toNat)) Li:=Iu (λa b h=>by
 simp only[aF,bw]at h;exact⟨h.1.1,h.1.2,h.2⟩) λ_ _=>⟨rfl,rfl⟩
theorem UN:OpD G (rI0 λi j=>.bl (decide (i<j))) Bx:=Ax λ_ _=>⟨rfl,rfl⟩
theorem UO:OpD G (rI0 λi j=>.bl (decide (i<=j))) va:=Ax λ_ _=>⟨rfl,rfl⟩
theorem UP:OpD G (rI0 λi j=>.bl (decide (j<i))) Du:=Ax λ_ _=>⟨rfl,rfl⟩
theorem UQ:OpD G (rI0 λi j=>.bl (decide (j<=i))) QW:=Ax λ_ _=>⟨rfl,rfl⟩
def ya:D->D->Option D
 |.str a,.str b=>if a.length+b.length<=100000 then some (.str (a++b))else none
 |_,_=>none
theorem Cc{n:Nat}(h:n<=100000):n<=ay:=bc h (by rw[bK];decide)
theorem Oo:OpD G (λx y H Q=>∃i j,x=.str i/\y=.str j/\i.length+j.length<=ay/\Q (.str (i++j)) H) ya:=λx y z H0 H v u Q e s rx ry k=>by
 unfold ya at e;split at e
 ·rename_i a b;split at e
  ·rename_i hl;cases e;unfold Rep at rx ry;exact⟨a,b,rx,ry,Cc hl,k _ λ_ _=>uJ _⟩
  ·cases e
 ·cases e
def Lj:D->D->Option D
 |.str a,.str b=>some (.bl (!decide (b.cps.toList<a.cps.toList)))
 |_,_=>none
theorem Q3:OpD G (λx y H Q=>∃i j,x=.str i/\y=.str j/\Q (.bl (!decide (j.cps.toList<i.cps.toList))) H) Lj:=λx y z H0 H v u Q e s rx ry k=>by
 unfold Lj at e;split at e
 ·rename_i a b;cases e;unfold Rep at rx ry;exact⟨a,b,rx,ry,k _ λ_ _=>sk _⟩
 ·cases e
def zQ:D->D->Option D
 |.non,.non=>some (.bl true)
 |_,.non=>some (.bl false)
 |_,_=>none
def uk:D->D->Option D
 |.non,.non=>some (.bl false)
 |_,.non=>some (.bl true)
 |_,_=>none
theorem Iv{v:V}(h:Rep G H d v):decide (v=.non)=(match d with|.non=>true|_=>false):=by
 cases d<;>unfold Rep at h
 ·subst h;rfl
 ·subst h;rfl
 ·subst h;rfl
 ·subst h;rfl
 ·obtain⟨a,xs,rfl,_⟩:=h;rfl
 ·obtain⟨a,xs,rfl,_⟩:=h;rfl
 ·obtain⟨a,xs,rfl,_⟩:=h;rfl
 ·obtain⟨a,dx,xs,rfl,_⟩:=h;rfl
 ·obtain⟨a,ob,xs,rfl,_⟩:=h;rfl
theorem Q4:OpD G (λx y H Q=>y=.non/\Q (.bl (decide (x=.non))) H) zQ:=λx y z H0 H v u Q e s rx ry k=>by
 have e0:=Iv rx;cases y<;>first|(cases x<;>cases e)|skip
 all_goals (unfold Rep at ry;refine⟨ry,?_⟩;rw[e0];exact k _ λ_ _=>sk _)
theorem Oq:OpD G (λx y H Q=>y=.non/\Q (.bl (!decide (x=.non))) H) uk:=λx y z H0 H v u Q e s rx ry k=>by
 have e0:=Iv rx;cases y<;>first|(cases x<;>cases e)|skip
 all_goals (unfold Rep at ry;refine⟨ry,?_⟩;rw[e0];exact k _ λ_ _=>sk _)
def VE:D->D->Option D
 |.bl a,.bl b=>some (.bl (a != b))
 |_,_=>none
mutual
def toD:D->Option L3.Dq
 |.non=>some .non
 |.bl b=>some (.bl b)
 |.int i=>some (.int i)
 |.str x=>some (.str x)
 |.tup ds=>match um ds with
  |some l=>some (.tup l)
  |none=>none
 |.lst ds=>match um ds with
  |some l=>some (.lst l)
  |none=>none
 |.fzl _=>none
 |.obj _ _ _=>none
 |.dic _ _=>none
def um:List D->Option (List L3.Dq)
 |[]=>some []
 |d::ds=>match toD d with
  |some x=>match um ds with
   |some l=>some (x::l)
   |none=>none
  |none=>none
end
mutual
theorem BI:∀(d:D) (v:V) (x:L3.Dq),Rep G H d v->toD d=some x->L3.Rep G.K H x v
 |.non,v,x,h,e=>by unfold toD at e;cases e;unfold Rep at h;unfold L3.Rep;exact h
 |.bl b,v,x,h,e=>by unfold toD at e;cases e;unfold Rep at h;unfold L3.Rep;exact h
 |.int b,v,x,h,e=>by unfold toD at e;cases e;unfold Rep at h;unfold L3.Rep;exact h
 |.str b,v,x,h,e=>by unfold toD at e;cases e;unfold Rep at h;unfold L3.Rep;exact h
 |.tup ds,v,x,h,e=>by
  unfold toD at e;cases e1:um ds with
  |none=>simp only[e1]at e;cases e
  |some l=>simp only[e1]at e;cases e;unfold Rep at h;obtain⟨a,xs,rfl,h1,h2⟩:=h;unfold L3.Rep;exact⟨a,xs,rfl,h1,zR ds xs l h2 e1⟩
 |.lst ds,v,x,h,e=>by
  unfold toD at e;cases e1:um ds with
  |none=>simp only[e1]at e;cases e
  |some l=>simp only[e1]at e;cases e;unfold Rep at h;obtain⟨a,xs,rfl,h1,h2⟩:=h;unfold L3.Rep;exact⟨a,xs,rfl,SqL.of h1,zR ds xs l h2 e1⟩
 |.fzl _,v,x,h,e=>by unfold toD at e;cases e
 |.obj _ _ _,v,x,h,e=>by unfold toD at e;cases e
 |.dic _ _,v,x,h,e=>by unfold toD at e;cases e
theorem zR:∀(ds:List D) (xs:List V) (l:List L3.Dq),pE G H ds xs->um ds=some l->L3.pE G.K H l xs
 |[],xs,l,h,e=>by unfold um at e;cases e;unfold pE at h;unfold L3.pE;exact h
 |d::ds,xs,l,h,e=>by
  unfold um at e;cases e1:toD d with
  |none=>simp only[e1]at e;cases e
  |some x=>
   simp only[e1]at e;cases e2:um ds with
   |none=>simp only[e2]at e;cases e
   |some l'=>simp only[e2]at e;cases e;unfold pE at h;obtain⟨v,r,rfl,h1,h2⟩:=h;unfold L3.pE;exact⟨v,r,rfl,BI d v x h1 e1,zR ds r l' h2 e2⟩
end
def EM(neg:Bool):D->D->Option D:=λx y=>match sq x&&sq y&&Ks (vD x) (vD y)with
 |true=>some (.bl (if neg then !decide (vD x=vD y)else decide (vD x=vD y)))
 |false=>none
def JP(neg:Bool):D->D->Option D:=λx y=>match toD x,toD y with
 |some a,some b=>if KU a b&&decide (dpt a<=20)&&decide (dpt b<=20)then some (.bl (if neg then !eqD a b else eqD a b))else none
 |_,_=>none
def dEq(neg:Bool):D->D->Option D:=λx y=>match EM neg x y with
 |some z=>some z
 |none=>JP neg x y
theorem Q5:OpD G rEq (EM false):=λx y z H0 H v u Q e s rx ry k=>by
 unfold EM at e;cases e1:sq x&&sq y&&Ks (vD x) (vD y)with
 |false=>simp only[e1]at e;cases e
 |true=>simp only[e1]at e;cases e;simp only[aF]at e1;rw[uj rx e1.1.1,uj ry e1.1.2];exact⟨e1.2,k _ λ_ _=>sk _⟩
theorem Q6:OpD G rNe (EM true):=λx y z H0 H v u Q e s rx ry k=>by
 unfold EM at e;cases e1:sq x&&sq y&&Ks (vD x) (vD y)with
 |false=>simp only[e1]at e;cases e
 |true=>simp only[e1]at e;cases e;simp only[aF]at e1;rw[uj rx e1.1.1,uj ry e1.1.2];exact⟨e1.2,k _ λ_ _=>sk _⟩
theorem Lk:OpD G (GY G.K neg) (JP neg):=λx y z H0 H v u Q e s rx ry k=>by
 unfold JP at e;cases e1:toD x with
 |none=>simp only[e1]at e;cases e
 |some a=>
  cases e2:toD y with
  |none=>simp only[e1,e2]at e;cases e
  |some b=>
   simp only[e1,e2]at e;split at e
   ·rename_i hc;cases e;simp only[aF,bw]at hc;exact⟨a,b,BI x v a (Rep.mono s _ _ rx) e1,BI y u b (Rep.mono s _ _ ry) e2,hc.1.1,hc.1.2,hc.2,k _ λ_ _=>sk _⟩
   ·cases e
theorem Q7(hu:X.A.units+64<cLine)(hK:X.K=G.K:=by rfl):OpR X (aV .Eq) (λx y H Q=>rEq x y H Q\/GY G.K false x y H Q):=by rw[<-hK];exact OpR.or Uh (QG hu)
theorem Q8(hu:X.A.units+64<cLine)(hK:X.K=G.K:=by rfl):OpR X (aV .NotEq) (λx y H Q=>rNe x y H Q\/GY G.K true x y H Q):=by rw[<-hK];exact OpR.or Ui (QH hu)
theorem UR:OpD G (λx y H Q=>rEq x y H Q\/GY G.K false x y H Q) (dEq false):=OpD.or Q5 Lk
theorem US:OpD G (λx y H Q=>rNe x y H Q\/GY G.K true x y H Q) (dEq true):=OpD.or Q6 Lk
def Ll:D->Option (List D)
 |.tup ds=>some ds
 |.lst ds=>some ds
 |.fzl ds=>some ds
 |_=>none
theorem Iw{v:V}(h:Rep G H d v)(e:Ll d=some ds):∃p xs,v=.ref p/\(SqL G.K H p xs\/SqT G.K H p xs)/\pE G H ds xs:=by
 cases d with
 |tup l=>cases e;unfold Rep at h;obtain⟨a,xs,rfl,h1,h2⟩:=h;exact⟨a,xs,rfl,.inr h1,h2⟩
 |lst l=>cases e;unfold Rep at h;obtain⟨a,xs,rfl,h1,h2⟩:=h;exact⟨a,xs,rfl,.inl (SqL.of h1),h2⟩
 |fzl l=>cases e;unfold Rep at h;obtain⟨a,xs,rfl,h1,h2⟩:=h;exact⟨a,xs,rfl,.inl h1,h2⟩
 |_=>cases e
def dIn(neg:Bool):D->D->Option D:=λx y=>match Ll y with
 |some ds=>if sq x&&ds.all sq then some (.bl (if neg then !inV (vD x) (ds.map vD)else inV (vD x) (ds.map vD)))else none
 |none=>none
theorem Iy{K:ak}{H:Hp}(s:pL H H')(h:SqL K H p xs\/SqT K H p xs):SqL K H' p xs\/SqT K H' p xs:=h.imp s.seq (SqT.mono s)
theorem Pu:OpD G (rIn G.K neg) (dIn neg):=λx y z H0 H v u Q e s rx ry k=>by
 unfold dIn at e;cases e1:Ll y with
 |none=>simp only[e1]at e;cases e
 |some ds=>
  simp only[e1]at e;split at e
  ·rename_i hc;cases e;simp only[aF]at hc;obtain⟨p,xs,rfl,h1,h2⟩:=Iw ry e1;refine⟨p,xs,rfl,Iy s h1,?_,?_,?_⟩
   ·rw[uj rx hc.1];exact FQ hc.1
   ·rw[Aw h2 hc.2];exact DW hc.2
   ·rw[uj rx hc.1,Aw h2 hc.2];exact k _ λ_ _=>sk _
  ·cases e
theorem Q9(hK:X.K=G.K:=by rfl):OpR X (aV .In) (rIn G.K false):=by rw[<-hK];exact Jz
theorem JQ(hK:X.K=G.K:=by rfl):OpR X (aV .NotIn) (rIn G.K true):=by rw[<-hK];exact EC
def dIx:D->D->Option D
 |.tup ds,.int i=>atI ds i
 |.lst ds,.int i=>atI ds i
 |.fzl ds,.int i=>atI ds i
 |.str x,.int i=>if x.length<=100000 then (atI x.cps.toList i).map λc=>.str ⟨#[c]⟩else none
 |_,_=>none
theorem UT:OpD G (rIx G.K) dIx:=λx y z H0 H v u Q e s rx ry k=>by
 cases y with
 |int i=>
  unfold Rep at ry;subst ry;cases x with
  |tup ds=>unfold Rep at rx;obtain⟨a,xs,rfl,h1,h2⟩:=rx;obtain⟨w,w1,w2⟩:=zL h2 (show atI ds i=some z from e);exact .inr (.inl ⟨a,xs,i,w,rfl,rfl,SqT.mono s h1,w1,k _ λH0' s'=>Rep.mono s' _ _ w2⟩)
  |lst ds=>unfold Rep at rx;obtain⟨a,xs,rfl,h1,h2⟩:=rx;obtain⟨w,w1,w2⟩:=zL h2 (show atI ds i=some z from e);exact .inl ⟨a,xs,i,w,rfl,rfl,s.seq (SqL.of h1),w1,k _ λH0' s'=>Rep.mono s' _ _ w2⟩
  |fzl ds=>unfold Rep at rx;obtain⟨a,xs,rfl,h1,h2⟩:=rx;obtain⟨w,w1,w2⟩:=zL h2 (show atI ds i=some z from e);exact .inl ⟨a,xs,i,w,rfl,rfl,s.seq h1,w1,k _ λH0' s'=>Rep.mono s' _ _ w2⟩
  |str t=>
   unfold Rep at rx;subst rx;unfold dIx at e;simp only at e;split at e
   ·rename_i hl;cases e1:atI t.cps.toList i with
    |none=>rw[e1]at e;cases e
    |some c=>rw[e1]at e;cases e;exact .inr (.inr ⟨t,i,c,rfl,rfl,Cc hl,e1,k _ λ_ _=>uJ _⟩)
   ·cases e
  |_=>cases e
 |_=>cases x<;>cases e
theorem VQ(hK:X.K=G.K:=by rfl):IxR X (rIx G.K):=by rw[<-hK];exact Qx
def Cd(G:Bg)(r:List V->Hp->VK->Prop)(g:D->Option D):Prop:=∀x z H0 H v (Q:VK),g x=some z->pL H0 H->Rep G H0 x v->(∀w,(∀H0',pL H0 H0'->Rep G H0' z w)->Q w H)->r [v] H Q
theorem Lm{g:D->Option D}(hr:Cd G r g)(h:PE X e (tCB r (tFA G (aCons f qe)))):PE X e (tF G (c1 g f)):=PE.weak h λσ H Q hh=>by obtain⟨F,ρ,H0,d,ρ',R,e,k⟩:=hh;obtain⟨x,e1,e2⟩:=zK e;refine⟨F,ρ,H0,[x],ρ',R,by unfold aCons;rw[e1];rfl,λys H1 H1' s R' rs=>?_⟩;unfold pE at rs;obtain⟨v,r0,rfl,rv,rn⟩:=rs;unfold pE at rn;subst rn;exact hr x d H1 H1' v Q e2 R'.sub rv λw hw=>k _ _ _ s R' (hw _ (pL.refl _))
theorem rY.or{f:aa}{r':List V->Hp->VK->Prop}(h:rY X f r)(h':rY X f r'):rY X f (λx H Q=>r x H Q\/r' x H Q):=λpins s σ H xs us Q I rv q=>q.elim (h pins s σ H xs us Q I rv) (h' pins s σ H xs us Q I rv)
def qR:D->Option D
 |.tup ds=>some (.int ds.length)
 |.lst ds=>some (.int ds.length)
 |.fzl ds=>some (.int ds.length)
 |.str x=>if x.length<=100000 then some (.int x.length)else none
 |.dic ks ds=>some (.int ks.length)
 |_=>none
theorem JR:rY X (.builtin "len") (λxs H Q=>∃a kvs,xs=[V.ref a]/\Rd H a (.dK kvs)/\Q (.int kvs.length) H):=by intro pins s σ H xs us Q I r h;obtain⟨a,kvs,rfl,ha,q⟩:=h;obtain⟨u,rfl,ru⟩:=vals1 r;cases ru;exact Uy I ha λt s' I'=>⟨.int kvs.length,H,I',⟨t,rfl⟩,q⟩
def Pw(K:ak):List V->Hp->VK->Prop:=λxs H Q=>(∃p ys,xs=[.ref p]/\(SqL K H p ys\/SqT K H p ys)/\Q (.int ys.length) H)\/((∃z,xs=[.str z]/\z.length<=ay/\Q (.int z.length) H)\/(∃a kvs,xs=[V.ref a]/\Rd H a (.dK kvs)/\Q (.int kvs.length) H))
theorem JS(hK:X.K=G.K:=by rfl):rY X (.builtin "len") (Pw G.K):=by rw[<-hK];exact rY.or ED (rY.or EE JR)
theorem Rb:Cd G (Pw G.K) qR:=λx z H0 H v Q e s rx k=>by
 cases x with
 |tup ds=>cases e;unfold Rep at rx;obtain⟨a,xs,rfl,h1,h2⟩:=rx;refine .inl ⟨a,xs,rfl,.inr (SqT.mono s h1),?_⟩;rw[<-pF h2];exact k _ λ_ _=>rS _
 |lst ds=>cases e;unfold Rep at rx;obtain⟨a,xs,rfl,h1,h2⟩:=rx;refine .inl ⟨a,xs,rfl,.inl (s.seq (SqL.of h1)),?_⟩;rw[<-pF h2];exact k _ λ_ _=>rS _
 |fzl ds=>cases e;unfold Rep at rx;obtain⟨a,xs,rfl,h1,h2⟩:=rx;refine .inl ⟨a,xs,rfl,.inl (s.seq h1),?_⟩;rw[<-pF h2];exact k _ λ_ _=>rS _
 |str t=>
  unfold qR at e;simp only at e;split at e
  ·rename_i hl;cases e;unfold Rep at rx;exact .inr (.inl ⟨t,by rw[rx],Cc hl,k _ λ_ _=>rS _⟩)
  ·cases e
 |dic ks ds=>cases e;unfold Rep at rx;obtain⟨a,o,xs,rfl,h1,h2,h3⟩:=rx;refine .inr (.inr ⟨a,_,rfl,.inr ⟨o,s _ _ h1⟩,?_⟩);rw[fU,<- h2,fY];exact k _ λ_ _=>rS _
 |_=>cases e
def zj:D->Option D
 |.int i=>some (.int i)
 |.bl b=>some (.int (if b then 1 else 0))
 |_=>none
theorem Re:Cd G (λxs H Q=>(∃i,xs=[.int i]/\Q (.int i) H)\/∃k,xs=[.bl k]/\Q (.int (if k then 1 else 0)) H) zj:=λx z H0 H v Q e s rx k=>by
 cases x with
 |int i=>cases e;unfold Rep at rx;subst rx;exact .inl ⟨i,rfl,k _ λ_ _=>rS _⟩
 |bl b=>cases e;unfold Rep at rx;subst rx;exact .inr ⟨b,rfl,k _ λ_ _=>rS _⟩
 |_=>cases e
def Dv:List D->Option (List Bool)
 |[]=>some []
 |.bl b::r=>(Dv r).map (b::·)
 |_=>none
theorem Ce:∀{ds:List D} {xs:List V} {bs:List Bool},pE G H ds xs->Dv ds=some bs->xs=bs.map V.bl
 |[],xs,bs,h,e=>by cases e;unfold pE at h;exact h
 |.bl b::r,xs,bs,h,e=>by
  unfold pE at h;obtain⟨v,q,rfl,h1,h2⟩:=h;unfold Dv at e;cases e1:Dv r with
  |none=>rw[e1]at e;cases e
  |some l=>rw[e1]at e;cases e;unfold Rep at h1;subst h1;rw[Ce h2 e1];rfl
 |.non::r,xs,bs,h,e=>by cases e
 |.int _::r,xs,bs,h,e=>by cases e
 |.str _::r,xs,bs,h,e=>by cases e
 |.tup _::r,xs,bs,h,e=>by cases e
 |.lst _::r,xs,bs,h,e=>by cases e
 |.fzl _::r,xs,bs,h,e=>by cases e
 |.obj _ _ _::r,xs,bs,h,e=>by cases e
 |.dic _ _::r,xs,bs,h,e=>by cases e
def uy:D->Option D
 |.lst ds=>(Dv ds).map λbs=>.bl (bs.all id)
 |_=>none
theorem Rf:Cd G (λxs H Q=>∃(p:Addr) (bs:List Bool),xs=[.ref p]/\SqL G.K H p (bs.map V.bl)/\Q (.bl (bs.all id)) H) uy:=λx z H0 H v Q e s rx k=>by
 cases x with
 |lst ds=>
  unfold uy at e;simp only at e;cases e1:Dv ds with
  |none=>rw[e1]at e;cases e
  |some bs=>rw[e1]at e;cases e;unfold Rep at rx;obtain⟨a,xs,rfl,h1,h2⟩:=rx;rw[Ce h2 e1]at h1;exact⟨a,bs,rfl,s.seq (SqL.of h1),k _ λ_ _=>sk _⟩
 |_=>cases e
theorem JT(hc:X.calm=true)(hK:X.K=G.K:=by rfl):rY X (.builtin "all") (λxs H Q=>∃(p:Addr) (bs:List Bool),xs=[.ref p]/\SqL G.K H p (bs.map V.bl)/\Q (.bl (bs.all id)) H):=by rw[<-hK];exact KQ hc
inductive Ty where
 |b (n:String)|c (k:Nat)
def Ty.val(G:Bg):Ty->aa
 |.b n=>.type n
 |.c k=>.ref (G.ca k)
def Ty.v(G:Bg):Ty->V
 |.b n=>.ty n
 |.c k=>.ref (G.ca k)
def tyD:D->Ty
 |.non=>.b "NoneType" |.bl _=>.b "bool" |.int _=>.b "int" |.str _=>.b "str" |.tup _=>.b "tuple" |.lst _=>.b "list" |.fzl _=>.b "list" |.dic _ _=>.b "dict" |.obj c _ _=>.c c
structure FR(K:ak)(C:Addr):Prop where
 cl:Cls K C
 ha:bT K (.ref C) "__class__" = some (some (.builtin "object.__class__"))
 hn:mW K (.builtin "object.__class__") "__get__" = some (some (.builtin "getset_descriptor.__get__"))
 htk:W.takesIn K (.builtin "object.__class__")=some true
 hm:W.mroIn K C (.type "object")=some true
theorem Ln{pins:List (Addr×Obj)}{s:ab}{A:av}{E:aa->ab->Prop}{Q:aa->ab->Prop}{c:aa}{b:Bool}{v:V}{u:aa}(I:Inv X pins σ H s)(hK:X.K=G.K)(hd:Rep G H d v)(rv:RelV v u)(hc:∀k ns ds,d=.obj k ns ds->FR X.K (G.ca k))
  (e:cj X.K ((tyD d).val G) c=some b) (h:∀tk,Q (.bool b) { s with toks:=tk }):ag (model X.prog X.w) A (call (.builtin "isinstance") [u,c]) Q E s:=by
 cases d with
 |non=>unfold Rep at hd;subst hd;exact uS I rv .non e h
 |bl x=>unfold Rep at hd;subst hd;exact uS I rv (.bl x) e h
 |int x=>unfold Rep at hd;subst hd;exact uS I rv (.int x) e h
 |str x=>unfold Rep at hd;subst hd;exact uS I rv (.str x) e h
 |tup ds=>unfold Rep at hd;obtain⟨a,xs,rfl,h1,h2⟩:=hd;cases rv;rw[<-hK]at h1;obtain⟨its,_,p,_⟩:=I.tuple h1;obtain⟨o,q1,q2,_⟩:=p;exact bS jt I.kIn ⟨o,q1,q2⟩ e (λz=>nomatch z) h
 |lst ds=>unfold Rep at hd;obtain⟨a,xs,rfl,h1,h2⟩:=hd;exact uS I rv (.lst h1) e h
 |fzl ds=>unfold Rep at hd;obtain⟨a,xs,rfl,h1,h2⟩:=hd;cases rv;rw[<-hK]at h1;obtain⟨its,_,p,_⟩:=I.list h1;obtain⟨o,n,q1,q2,_⟩:=p;exact bS f6 I.kIn ⟨o,q1,q2⟩ e (λz=>nomatch z) h
 |dic ks ds=>unfold Rep at hd;obtain⟨a,o,xs,rfl,h1,h2,h3⟩:=hd;cases rv;obtain⟨q0,_,_,vs,_,ob,es,ep,q1,q2,_⟩:=(show qL X.prog X.w H s.heap a (.frz o (.dK (ks.zip xs))) from I.hok a _ h1);exact bS ia I.kIn ⟨ob,q1,q2.1⟩ e (λz=>nomatch z) h
 |obj k ns ds=>have ci:=hc k ns ds rfl;unfold Rep at hd;obtain⟨a,dx,xs,rfl,h1,h2,h3⟩:=hd;exact uS I rv (.ins h1 ci.cl ci.ha ci.hn ci.htk ci.hm) e h
def qC(t:Ty->Option Bool):D->Option D:=λd=>(t (tyD d)).map .bl
theorem DX(c:Ty){t:Ty->Option Bool}(ht:∀y b,t y=some b->cj X.K (y.val G) (c.val G)=some b)(hc:∀k b,t (.c k)=some b->FR X.K (G.ca k))(hK:X.K=G.K:=by rfl):
  rY X (.builtin "isinstance") (λxs H Q=>∃d x b,xs=[x,c.v G]/\Rep G H d x/\t (tyD d)=some b/\Q (.bl b) H):=by
 intro pins s σ H xs us Q I r h;obtain⟨d,x,b,rfl,hd,e,q⟩:=h;obtain⟨u,w',rfl,ru,rw'⟩:=vals2 r;have ew:w'=c.val G:=by cases c<;>exact rw'
 subst ew;exact Ln I hK hd ru (λk ns ds z=>by subst z;exact hc k b e) (ht _ _ e) λtk=>⟨.bl b,H,I.tok _,rfl,q⟩
theorem IA{c:Ty}{t:Ty->Option Bool}(h:PE X e (tCB (λxs H Q=>∃d x b,xs=[x,c.v G]/\Rep G H d x/\t (tyD d)=some b/\Q (.bl b) H) (yW (tF G f) (yW (tC (c.v G)) Dl)))):PE X e (tF G (c1 (qC t) f)):=PE.weak h λσ H Q hh=>by
 obtain⟨F,ρ,H0,d,ρ',R,e,k⟩:=hh;obtain⟨x,e1,e2⟩:=zK e;unfold qC at e2;cases e3:t (tyD x)with
 |none=>rw[e3]at e2;cases e2
 |some b=>rw[e3]at e2;cases e2;exact⟨F,ρ,H0,x,ρ',R,e1,λv H1 H1' s R' r=>⟨x,v,b,rfl,Rep.mono R'.sub _ _ r,e3,k _ _ _ s R' (sk b)⟩⟩
def qS(f g:FE):FA:=λρ=>match f ρ with
 |some (.lst xs,ρ1)=>match g ρ1 with
  |some (.lst ys,ρ2)=>if xs.length+ys.length<=1000 then some (xs++ys,ρ2)else none
  |_=>none
 |_=>none
theorem Os{a:Expr}{g:FE}(ha:PE X a (tF G f))(hb:PE X b (tF G g)):PE X (.BinOp a .Add b pos) (tFN G (qS f g)):=PE.weak (HU Qz ha hb) λσ H Q hh=>by
 obtain⟨F,ρ,H0,d,ρ',R,e,k⟩:=hh;unfold qS at e;split at e
 ·rename_i xs ρ1 e1;split at e
  ·rename_i ys ρ2 e2;split at e
   ·rename_i hl;cases e;refine⟨F,ρ,H0,_,ρ1,R,e1,λv H1 H1' s R' r=>⟨F,ρ1,H1,_,_,R',e2,λu H2 H2' s2 R2 r2=>?_⟩⟩;have r':=Rep.mono s2 _ _ r;unfold Rep at r' r2;obtain⟨a1,xs1,rfl,h1,h2⟩:=r';obtain⟨a2,xs2,rfl,h3,h4⟩:=r2;refine⟨a1,a2,xs1,xs2,rfl,rfl,R2.sub _ _ h1,R2.sub _ _ h3,by rw[<-pF h2,<- pF h4];exact sj hl,λp hp=>?_⟩;exact k p _ _ _ (s.trans s2) (R2.newOwn hp _) pK (R2.h0none hp) (R2.bNone hp) (R2.apart hp) (rq h2 h4)
   ·cases e
  ·cases e
 ·cases e
def yZ(f:FE):FA:=λρ=>match f ρ with
 |some (d,ρ1)=>match Ll d with
  |some ds=>some (ds,ρ1)
  |none=>none
 |none=>none
theorem Lo(h:PE X e (tCB (λxs H Q=>∃p ys,xs=[.ref p]/\(SqL G.K H p ys\/SqT G.K H p ys)/\∀l,H l=none->Q (.ref l) (upd H l (.lst ys))) (tFA G (aCons f qe)))):PE X e (tFN G (yZ f)):=PE.weak h λσ H Q hh=>by
 obtain⟨F,ρ,H0,ds,ρ',R,e,k⟩:=hh;unfold yZ at e;rcases qc (f:=f) (ρ:=ρ)with e1|⟨d,ρ1,e1⟩<;>simp only[e1]at e
 ·cases e
 ·cases e2:Ll d with
  |none=>simp only[e2]at e;cases e
  |some ds'=>simp only[e2]at e;cases e;refine⟨F,ρ,H0,[d],_,R,by unfold aCons;rw[e1];rfl,λys H1 H1' s R' rs=>?_⟩;unfold pE at rs;obtain⟨v,r0,rfl,rv,rn⟩:=rs;unfold pE at rn;subst rn;obtain⟨p,xs,rfl,h1,h2⟩:=Iw rv e2;exact⟨p,xs,rfl,Iy R'.sub h1,λl hl=>k l _ _ _ s (R'.newOwn hl _) pK (R'.h0none hl) (R'.bNone hl) (R'.apart hl) h2⟩
theorem G3(hK:X.K=G.K:=by rfl):rY X (.type "list") (λxs H Q=>∃p ys,xs=[.ref p]/\(SqL G.K H p ys\/SqT G.K H p ys)/\∀l,H l=none->Q (.ref l) (upd H l (.lst ys))):=by rw[<-hK];exact EF
def cutD(xs:List D)(lo hi:Option Int):List D:=(xs.drop (HT.sIx xs.length 0 lo)).take (HT.sIx xs.length xs.length hi - HT.sIx xs.length 0 lo)
theorem FU{lo hi:Option Int}(r:pE G H0 ds xs):pE G H0 (cutD ds lo hi) (Fo xs lo hi):=by unfold cutD Fo;rw[<-pF r];exact DT _ (DQ _ r)
def tO(o:Option Int):TO:=λ_ H Q=>Q o H
theorem Lp{n:Int}{j pos}:PO X (some (.Constant (.int n) j pos)) (tO (some n)):=λpins s σ H Q I h=>Ib Et pins s σ H Q I ⟨n,rfl,h⟩
theorem UU:PO X none (tO none):=Ia
theorem VR(hK:X.K=G.K:=by rfl):SlR X (NG G.K):=by rw[<-hK];exact NH
end
def Sl.bor:Sl->Sl
 |.un=>.un
 |.im d=>.im d
 |.ls ds=>.im (.lst ds)
 |.pm ds=>.im (.lst ds)
 |.dk _ _=>.un
 |.ob c ns ds=>.im (.obj c ns ds)
variable{fa fb fc:FE}{op':eE}
section
variable{X:Cx}{G:Bg}
theorem pV.bor{H:Hp}(R:pV G F σ ρ H0 H):pV G ⟨H,H,[]⟩ σ (ρ.map Sl.bor) H H where
 sub:=pL.refl _
 g0:=pL.refl _
 keep:=λb o e _=>e
 fr:=λb o e=>.inl e
 am:=λa h=>by cases h
 len:=by rw[af];exact R.len
 sl:=λi s e=>by
  rw[bb]at e;cases e1:ρ[i]? with
  |none=>rw[e1]at e;cases e
  |some t=>
   rw[e1]at e;cases e;have ok:=R.sl i t e1;cases t with
   |un=>trivial
   |im d=>obtain⟨v,h1,h2⟩:=ok;exact⟨v,h1,Rep.mono R.sub _ _ h2⟩
   |ls ds=>obtain⟨a,xs,h1,h2,h3,h4,h5⟩:=ok;exact⟨_,h1,wY h2 (pE.mono R.sub _ _ h5)⟩
   |pm ds=>obtain⟨a,xs,h1,h2,h3,h4,h5⟩:=ok;exact⟨_,h1,wY h2 (pE.mono R.sub _ _ h5)⟩
   |dk ks ds=>trivial
   |ob c ns ds=>obtain⟨a,dx,xs,h1,h2,h3,h4,h5,h6⟩:=ok;exact⟨_,h1,by unfold Rep;exact⟨a,dx,xs,rfl,h2,h5,pE.mono R.sub _ _ h6⟩⟩
 ap:=λi j s t a _ e _ so=>by
  rw[bb]at e;cases e1:ρ[i]? with
  |none=>rw[e1]at e;cases e
  |some t=>rw[e1]at e;cases e;cases t<;>cases so
theorem pV.unbor{σ':St}{H:Hp}(R:pV G F σ ρ H0 H)(R':pV G ⟨H,H,[]⟩ σ' ρ' H1 H1'):pV G F σ ρ H0 H1':=
 R.grow (λb o e=>R'.keep b o e (by simp)) (pL.refl _) (λb o e=>R'.keep b o (R.sub _ _ e) (by simp)) λb o e=>.inl e
def vb(f:FE):FE:=λρ=>match f (ρ.map Sl.bor)with
 |some (d,_)=>if sq d=true then some (d,ρ)else none
 |none=>none
def uo(f:FT):FT:=λρ=>match f (ρ.map Sl.bor)with
 |some (d,_)=>some (d,ρ)
 |none=>none
theorem Rg(h:PE X e (tF G f)):PE X e (tF G (vb f)):=PE.weak h λσ H Q hh=>by
 obtain⟨F,ρ,H0,d,ρ',R,e,k⟩:=hh;unfold vb at e;rcases qc (f:=f) (ρ:=ρ.map Sl.bor)with e1|⟨x,ρ1,e1⟩<;>simp only[e1]at e
 ·cases e
 ·split at e
  ·rename_i hf;cases e;refine⟨_,_,H,d,ρ1,R.bor,e1,λv H1 H1' s R' r=>?_⟩;rw[uj r hf];exact k _ _ _ (pL.refl _) (R.unbor R') (zP hf _)
  ·cases e
theorem Ot{f:FT}(h:PT X e (tFT G f)):PT X e (tFT G (uo f)):=PT.weak h λσ H Q hh=>by
 obtain⟨F,ρ,H0,d,ρ',R,e,k⟩:=hh;unfold uo at e;rcases qc (f:=f) (ρ:=ρ.map Sl.bor)with e1|⟨x,ρ1,e1⟩<;>simp only[e1]at e
 ·cases e
 ·cases e;exact⟨_,_,H,d,ρ1,R.bor,e1,λH1 H1' s R'=>k _ _ (pL.refl _) (R.unbor R')⟩
def sQ(g g':D->D->Option D)(fa fb fc:FE):FE:=λρ=>match fa ρ with
 |some (x,ρ1)=>match fb ρ1 with
  |some (y,ρ2)=>match g x y with
   |some (.bl true)=>match fc ρ2 with
    |some (z,ρ3)=>match g' y z with
     |some w=>some (w,ρ3)
     |none=>none
    |none=>none
   |some (.bl false)=>some (.bl false,ρ2)
   |_=>none
  |none=>none
 |none=>none
theorem FV{r:R2}{g:D->D->Option D}(ho:OpD G r g)(ho':OpD G r' g'):∀σ H Q,tF G (sQ g g' fa fb fc) σ H Q->GE r r' (tF G fa) (tF G fb) (tF G fc) σ H Q:=λσ H Q hh=>by
 obtain⟨F,ρ,H0,d,ρ',R,e,k⟩:=hh;unfold sQ at e;rcases qc (f:=fa) (ρ:=ρ)with e1|⟨x,ρ1,e1⟩<;>simp only[e1]at e
 ·cases e
 rcases qc (f:=fb) (ρ:=ρ1)with e2|⟨y,ρ2,e2⟩<;>simp only[e2]at e
 ·cases e
 refine⟨F,ρ,H0,x,ρ1,R,e1,λv H1 H1' s1 R1 r1=>⟨F,ρ1,H1,y,ρ2,R1,e2,λu H2 H2' s2 R2 r2=>?_⟩⟩;split at e
 ·rename_i e3;refine ho x y _ H2 H2' v u _ e3 R2.sub (Rep.mono s2 _ _ r1) r2 λw hw=>?_;have hw':=hw H2 (pL.refl _);unfold Rep at hw';refine⟨true,hw',Fu ?_⟩;rcases qc (f:=fc) (ρ:=ρ2)with e4|⟨z,ρ3,e4⟩<;>simp only[e4]at e
  ·cases e
  cases e5:g' y z with
  |none=>simp only[e5]at e;cases e
  |some q=>simp only[e5]at e;cases e;refine⟨F,ρ2,H2,z,_,R2,e4,λt H3 H3' s3 R3 r3=>?_⟩;exact ho' y z _ H3 H3' u t Q e5 R3.sub (Rep.mono s3 _ _ r2) r3 λw hw=>k w H3 H3' (s1.trans (s2.trans s3)) R3 (hw _ (pL.refl _))
 ·rename_i e3;cases e;refine ho x y _ H2 H2' v u _ e3 R2.sub (Rep.mono s2 _ _ r1) r2 λw hw=>?_;have hw':=hw H2 (pL.refl _);unfold Rep at hw';exact⟨false,hw',Ft (k _ _ _ (s1.trans s2) R2 (sk false))⟩
 ·cases e
theorem Lq{a c:Expr}{r:R2}{g:D->D->Option D}(hr:OpR X (aV op) r)(hr':OpR X (aV op') r')(ho:OpD G r g)(ho':OpD G r' g')(ha:PE X a (tF G fa))(hb:PE X b (tF G fb))(hc:PE X c (tF G fc))
  (hm:lastMarks [op,op'] [b,c]=false:=by with_unfolding_all rfl):PE X (.Compare a [op,op'] [b,c] pos) (tF G (sQ g g' fa fb fc)):=PE.weak (Kv hr hr' ha hb hc hm) (FV ho ho')
theorem JU{a c:Expr}{r:R2}{g:D->D->Option D}(hr:OpR X (aV op) r)(hr':OpR X (aV op') r')(ho:OpD G r g)(ho':OpD G r' g')(ha:PE X a (tF G fa))(hb:PE X b (tF G fb))(hc:PE X c (tF G fc))
  (hm:lastMarks [op,op'] [b,c]=false:=by with_unfolding_all rfl):PT X (.Compare a [op,op'] [b,c] pos) (tFT G (cT (sQ g g' fa fb fc))):=PT.weak (Kw hr hr' ha hb hc hm) λσ H Q hh=>by
 obtain⟨F,ρ,H0,d,ρ',R,e,k⟩:=Io σ H Q hh;exact FV ho ho' σ H _ ⟨F,ρ,H0,d,ρ',R,e,k⟩
end
def y3(P:ar)(w:aq)(K:ak)(mg:Str->Option aa)(base:Heap)(k:Nat)(x:Str)(ps:List Str)(sp:Sp):Prop:=
 ∃(f:Addr) (fd:bB),mg x=some (.ref f)/\cO K (.ref f)=true/\Binds K fd ps []/\uw P w K mg base CX0 k f fd ps sp
def EN(G:Bg)(P:ar)(w:aq)(mg:Str->Option aa)(base:Heap)(k:Nat)(x:Str)(c:Nat)(ps:List Str)(dvs:List V)(g:List D->Option (List Str×List D)):Prop:=
 ∃(f:Addr) (fd:bB) (ds:List aa),Mk G.K (G.ca c) f/\mg x=some (.ref (G.ca c))/\Binds G.K fd ps ds/\Vals dvs ds/\uw P w G.K mg base CX0 k f fd ps (spI G c g)
def Ay(G:Bg)(P:ar)(w:aq)(mg:Str->Option aa)(base:Heap)(k:Nat)(m:Str)(c:Nat)(h:List D->Option D):Prop:=
 ∃(f:Addr) (fd:bB) (ps:List Str),Cls G.K (G.ca c)/\Meth G.K (G.ca c) m f/\Binds G.K fd ps []/\uw P w G.K mg base CX0 k f fd ps (spF G h)
section
variable{X:Cx}{G:Bg}{k:Nat}{x m:Str}{p pos apos:Pos}{e o:Expr}{es:List Expr}{a:FA}{ps:List Str}
theorem AZ{α:Type}(g:List D->α):(λds=>g (ds++[]))=g:=funext λds=>by rw[bA]
theorem Rh{g:List D->Option D}(D:y3 X.prog X.w X.K X.mg X.base k x ps (spF G g))(hr:rG k X.A)(ha:PA X (e::es) (tFA G a))(hg:Gl X x:=by rfl)(hdb:(x==("__debug__" : Str))=false:=by decide)(he:aw (e::es) X.env=(false,eval e X.env)::aw es X.env:=by rfl)(hpl:(ba pos (aw es X.env)).any (·.1)=false:=by rfl):
  PE X (.Call (.Name x p) (e::es) [] pos) (tF G (pC g a)):=by
 obtain⟨f,fd,h1,h2,h3,h4⟩:=D;have q:=Od (dvs:=[]) (dds:=[]) (λ_=>qf) (BE (p:=p) (pos:=pos) h4 hr hg h1 h2 h3 .nil BZ ha hdb he hpl);rw[AZ]at q;exact q
theorem Ou{g:List D->Option (List D)}(D:y3 X.prog X.w X.K X.mg X.base k x ps (spN G g))(hr:rG k X.A)(ha:PA X (e::es) (tFA G a))(hg:Gl X x:=by rfl)(hdb:(x==("__debug__" : Str))=false:=by decide)(he:aw (e::es) X.env=(false,eval e X.env)::aw es X.env:=by rfl)(hpl:(ba pos (aw es X.env)).any (·.1)=false:=by rfl):
  PE X (.Call (.Name x p) (e::es) [] pos) (tFN G (qh g a)):=by
 obtain⟨f,fd,h1,h2,h3,h4⟩:=D;have q:=K9 (dvs:=[]) (dds:=[]) (λ_=>qf) (BE (p:=p) (pos:=pos) h4 hr hg h1 h2 h3 .nil BZ ha hdb he hpl);rw[AZ]at q;exact q
theorem Lr{g:List D->Option (List D)}(D:y3 X.prog X.w X.K X.mg X.base k x ps (spN G g))(hr:rG k X.A)(hg:Gl X x:=by rfl)(hdb:(x==("__debug__" : Str))=false:=by decide):PE X (.Call (.Name x p) [] [] pos) (tFN G (qh g qe)):=by obtain⟨f,fd,h1,h2,h3,h4⟩:=D;exact JK (KB h4 hr hg h1 h2 h3 .nil BZ hdb)
theorem Ov{g:List D->List D->Option (D×List D)}(D:y3 X.prog X.w X.K X.mg X.base k x ps (spM G g))(hr:rG k X.A)(hv:PE X e (wy i))(ha:PA X es (tFA G a))(hg:Gl X x:=by rfl)(hdb:(x==("__debug__" : Str))=false:=by decide)(he:aw (e::es) X.env=(false,eval e X.env)::aw es X.env:=by rfl)(hpl:(ba pos (aw es X.env)).any (·.1)=false:=by rfl):
  PE X (.Call (.Name x p) (e::es) [] pos) (tF G (p8 g i a)):=by
 obtain⟨f,fd,h1,h2,h3,h4⟩:=D;exact QV (BE (p:=p) (pos:=pos) h4 hr hg h1 h2 h3 .nil BZ (rj hv ha he) hdb he hpl)
theorem Ow{g:List D->Option (List Str×List D)}(M:EN G X.prog X.w X.mg X.base k x c ps dvs g)(hd:∀H,pE G H dds dvs)(hr:rG (k+1) X.A)(ha:PA X (e::es) (tFA G a))(hK:X.K=G.K:=by rfl)(hg:Gl X x:=by rfl)(hdb:(x==("__debug__" : Str))=false:=by decide)
  (he:aw (e::es) X.env=(false,eval e X.env)::aw es X.env:=by rfl) (hpl:(ba pos (aw es X.env)).any (·.1)=false:=by rfl):
  PE X (.Call (.Name x p) (e::es) [] pos) (tF G (pY c (λds=>g (ds++dds)) a)):=by
 obtain⟨f,fd,ds,h1,h2,h3,h4,h5⟩:=M;rw[<-hK]at h1 h3 h5;exact Of hd (NA (p:=p) (pos:=pos) h1 h5 hr hg h2 h3 h4 BZ ha hdb he hpl)
theorem Px{g:Nat->Option (List D->Option D)}(M:∀c h,g c=some h->Ay G X.prog X.w X.mg X.base k m c h)(hr:rG k X.A)(hK:X.K=G.K):∀C sp,MT G g C sp->MOk X C m sp [] E0:=λC sp h=>by obtain⟨c,h,e,rfl,rfl⟩:=h;obtain⟨f,fd,ps,q1,q2,q3,q4⟩:=M c h e;rw[<-hK]at q1 q2 q3 q4;exact⟨k,f,fd,ps,[],q1,q2,q4,hr,q3,.nil,BZ⟩
theorem JV{g:Nat->Option (List D->Option D)}{pl:Sem Bool}(M:∀c h,g c=some h->Ay G X.prog X.w X.mg X.base k m c h)(hr:rG k X.A)(ho:PE X o (tF G f))(ha:PA X (e::es) (tFA G a))(hK:X.K=G.K:=by rfl)
  (hst:aw (e::es) X.env=(false,eval e X.env)::aw es X.env:=by rfl) (hpl:(ba pos (aw es X.env)).any (·.1)=false:=by rfl)
  (ht:eval (.Call (.Attribute o m apos) (e::es) [] pos) X.env=(do
   let ov<-eval o X.env
   standAt apos.atName
   let (f,first)<-holding [ov] (getMethod ov m pl)
   callWith pos f first (ba pos (aw (e::es) X.env)) (backToKw pos (cM [] X.env))):=by rfl):
  PE X (.Call (.Attribute o m apos) (e::es) [] pos) (tF G (qB g m f a)):=Oe (E:=E0) (Lb (dvs:=[]) (MT G g) (Px M hr hK) ho ha hst hpl ht)
theorem G4{g:Nat->Option (List D->Option D)}{pl:Sem Bool}(M:∀c h,g c=some h->Ay G X.prog X.w X.mg X.base k m c h)(hr:rG k X.A)(ho:PE X o (tF G f))(hK:X.K=G.K:=by rfl)
  (ht:eval (.Call (.Attribute o m apos) [] [] pos) X.env=(do
   let ov<-eval o X.env
   standAt apos.atName
   let (f,first)<-holding [ov] (getMethod ov m pl)
   callWith pos f first (ba pos (aw [] X.env)) (backToKw pos (cM [] X.env))):=by rfl):
  PE X (.Call (.Attribute o m apos) [] [] pos) (tF G (qB g m f qe)):=Lc (E:=E0) (JM (dvs:=[]) (MT G g) (Px M hr hK) ho ht)
end
section
variable{P:ar}{w:aq}{K:ak}{mg:Str->Option aa}{base:Heap}{x qual:Str}{st:Stmt}{f T:Addr}{fd:bB}{N ps:List Str}{k:Nat}{G:Bg}
abbrev A0(P:ar)(w:aq)(K:ak)(mg:Str->Option aa)(base:Heap)(N:List Str)(qual:Str)(st:Stmt)(f:Addr)(cdv:aa)(A:av)(outer:List Env)(s:ab)(H:Hp)(E:XK):Cx:=(Fk CX0 P w K mg base N qual (pP st) f cdv A outer s H E).nox
theorem Ls{n:Nat}{g:List D->Option D}{b:FS}(hg:g=fnD np n b)(hp:ps.length=np)(hN:N.length=n)(F:Fun K x qual st f fd)(S:rR N ps (pP st))(body:∀(cdv:aa) (A:av) (outer:List Env) (s:ab) (H:Hp) (E:XK),rG k (A.deeper (envOfC qual (pP st) s.heap.objs.size f cdv))->PSs (A0 P w K mg base N qual st f cdv A outer s H E) (qo st) (tFS G b)):
  uw P w K mg base CX0 (k+1) f fd ps (spF G g):=by
 subst hg hp hN;exact F.ok S (UI N9) λcdv A outer s H vs Q E hr h=>⟨_,body cdv A outer s H E hr,N7 (by have:=bj cg S.pre;rw[bz]at this;omega) h⟩
theorem UV{n:Nat}{g:List D->Option (List D)}{b:FS}(hg:g=fnN np n b)(hp:ps.length=np)(hN:N.length=n)(F:Fun K x qual st f fd)(S:rR N ps (pP st))(body:∀(cdv:aa) (A:av) (outer:List Env) (s:ab) (H:Hp) (E:XK),rG k (A.deeper (envOfC qual (pP st) s.heap.objs.size f cdv))->PSs (A0 P w K mg base N qual st f cdv A outer s H E) (qo st) (tFS G b)):
  uw P w K mg base CX0 (k+1) f fd ps (spN G g):=by
 subst hg hp hN;exact F.ok S (UJ Oa) λcdv A outer s H vs Q E hr h=>⟨_,body cdv A outer s H E hr,N8 (by have:=bj cg S.pre;rw[bz]at this;omega) h⟩
theorem UW{n:Nat}{g:List D->List D->Option (D×List D)}{b:FS}{p:Str}{ps:List Str}(hg:g=fnM np n b)(hp:ps.length=np)(hN:N.length=n)(F:Fun K x qual st f fd)(S:rR N (p::ps) (pP st))(body:∀(cdv:aa) (A:av) (outer:List Env) (s:ab) (H:Hp) (E:XK),rG k (A.deeper (envOfC qual (pP st) s.heap.objs.size f cdv))->PSs (A0 P w K mg base N qual st f cdv A outer s H E) (qo st) (tFS G b)):
  uw P w K mg base CX0 (k+1) f fd (p::ps) (spM G g):=by
 subst hg hp hN;exact F.ok S (UM Ol) λcdv A outer s H vs Q E hr h=>⟨_,body cdv A outer s H E hr,Oj (by have:=bj cg S.pre;rw[bz,aB]at this;omega) h⟩
theorem Py{g:List D->Option (List Str×List D)}(hg:∀ds q,g ds=some q->ds.length=np):∀vs H Q E,spI G c g vs H Q E->vs.length=np+1:=λvs H Q E h=>by obtain⟨p,dx,us,H0,ds,ns,es,rfl,_,_,_,r,e,_⟩:=h;rw[aB,<- pF r,hg _ _ e]
theorem UX{n:Nat}{g:List D->Option (List Str×List D)}{b:FS}{p:Str}{ps:List Str}(hg:g=fnI c np n b)(hp:ps.length=np)(hN:N.length=n)(F:Fun K x qual st f fd)(S:rR N (p::ps) (pP st))(body:∀(cdv:aa) (A:av) (outer:List Env) (s:ab) (H:Hp) (E:XK),rG k (A.deeper (envOfC qual (pP st) s.heap.objs.size f cdv))->PSs (A0 P w K mg base N qual st f cdv A outer s H E) (qo st) (tFS G b)):
  uw P w K mg base CX0 (k+1) f fd (p::ps) (spI G c g):=by
 subst hg hp hN;exact F.ok S (Py λds q h=>(B8 h).1) λcdv A outer s H vs Q E hr h=>⟨_,body cdv A outer s H E hr,Ir (by have:=bj cg S.pre;rw[bz,aB]at this;omega) h⟩
theorem Rj{n:Nat}{g:List D->Option (List Str×List D)}{b:FS}{p:Str}{ps:List Str}(hg:g=fnI c np n b)(hp:ps.length=np)(hN:N.length=n)(F:JH K x qual st f fd T)(S:rR N (p::ps) (pP st))(body:∀(cdv:aa) (A:av) (outer:List Env) (s:ab) (H:Hp) (E:XK),rG k (A.deeper (envOfC qual (pP st) s.heap.objs.size f cdv))->PSs (A0 P w K mg base N qual st f cdv A outer s H E) (qo st) (tFS G b)):
  uw P w K mg base CX0 (k+1) f fd (p::ps) (spI G c g):=by
 subst hg hp hN;exact F.ok S (Py λds q h=>(B8 h).1) λcdv A outer s H vs Q E hr h=>⟨_,body cdv A outer s H E hr,Ir (by have:=bj cg S.pre;rw[bz,aB]at this;omega) h⟩
end
section
variable{X:Cx}{G:Bg}
def yJ(G:Bg)(mg:Str->Option aa)(x:Str)(d:D):Prop:=∃(v:V) (u:aa),mg x=some u/\RelV v u/\∀H,Rep G H d v
theorem Lu{x:Str}(h:yJ G X.mg x d)(hg:Gl X x:=by rfl)(hd:(x==("__debug__" : Str))=false:=by decide):PE X (.Name x pos) (tF G (cC d)):=by obtain⟨v,u,h1,h2,h3⟩:=h;exact NT (BD hg h1 h2 hd) h3
def Ox:FS:=λ_=>none
def vU(i:Nat)(j:Int)(f:FE):FS:=λρ=>match f ρ with
 |some (d,ρ1)=>match q9 ρ1 i with
  |some ds=>match ixN ds.length j with
   |some k=>some (.nx (putAt ρ1 i (ds.set k d)))
   |none=>none
  |none=>none
 |none=>none
theorem JW{j:Int}(h:PS X st (zf (tF G f) (Ud (wy i) (tC (.int j)) Po))):PS X st (tFS G (vU i j f)):=PS.weak h λE σ H hh=>by
 obtain⟨F,ρ,H0,o,R,e,k,k2⟩:=hh;unfold vU at e;rcases qc (f:=f) (ρ:=ρ)with e1|⟨d,ρ1,e1⟩<;>simp only[e1]at e
 ·cases e
 cases e2:q9 ρ1 i with
 |none=>simp only[e2]at e;cases e
 |some ds=>
  simp only[e2]at e;cases e3:ixN ds.length j with
  |none=>simp only[e3]at e;cases e
  |some m=>simp only[e3]at e;cases e;refine⟨F,ρ,H0,d,ρ1,R,e1,λv H1 H1' s R' r=>?_⟩;obtain⟨a,xs,s1,s2,s3,s4⟩:=sm R' e2;exact⟨.ref a,s1,a,xs,j,m,rfl,rfl,s2,by rw[<-pF s3];exact e3,k _ _ _ s (s4 _ _ (FC m s3 r))⟩
def qU(T:String):Ty->Option Bool
 |.b n=>if n="NoneType" then some false else if n="bool" then some (T=="bool" ||T=="int")else if n="int" then some (T=="int")else if n="str" then some (T=="str")else if n="tuple" then some (T=="tuple")else if n="list" then some (T=="list")else if n="dict" then some (T=="dict")else none
 |.c _=>none
theorem Lv{T:String}:∀k b,qU T (.c k)=some b->FR X.K (G.ca k):=λk b h=>by cases h
theorem Lw:∀y b,qU "list" y=some b->cj X.K (y.val G) (.type "list")=some b:=λy b h=>by
 cases y with
 |c k=>cases h
 |b n=>
  unfold qU at h;simp only at h
  iterate 7 (split at h;· rename_i e;subst e;cases h;first|rfl|kernel_rfl)
  cases h
theorem Oy:∀y b,qU "str" y=some b->cj X.K (y.val G) (.type "str")=some b:=λy b h=>by
 cases y with
 |c k=>cases h
 |b n=>
  unfold qU at h;simp only at h
  iterate 7 (split at h;· rename_i e;subst e;cases h;first|rfl|kernel_rfl)
  cases h
end
end L4
namespace L3
open PySem PySem.Spec PyProof.Rows L2
theorem Oz{X:Cx}{i:Nat}{y:Str}{py spos:Pos}{elt iter tg:Expr}{ifs:List Expr}{scope:b8}{pos:Pos}{N':List Str}{k:Nat}{cap:List Nat}{wi:TI}{g:TG}{tt:TT}{te:TE}
  (hc:X.calm=true) (hN:X.N.Nodup) (hy:X.N[i]?=some y) (hyl:Loc X.env.scope y) (hi:PI X tg iter wi)
  (body:∀(cl:List (Str×Addr)) (C:Addr) (fp:List Addr) (s:ab) (H:Hp),PG (ra X N' scope cl C fp s H) tg g/\PIf (ra X N' scope cl C fp s H) ifs tt/\PE (ra X N' scope cl C fp s H) elt te)
  (hkind:scope.kind=.function:=by rfl) (hcell:(scope.names.all λy=>y.2 != .cell)=true:=by rfl)
  (hloc:(scope.names.all λy=>y.2 != .local||scope.names.lookup y.1==some .local)=true:=by rfl)
  (hfree:(scope.names.all λy=>y.2 != .free||(X.env.kindOf y.1==some .cell||X.env.kindOf y.1==some .free))=true:=by rfl)
  (hlen:N'.length=k+cap.length:=by rfl) (hcap:(N'.drop k).map some=cap.map λj=>X.N[j]?:=by rfl)
  (hcf:((N'.drop k).all λx=>scope.names.lookup x==some .free)=true:=by rfl)
  (hs:∀x,fM iter X.env x=pure x:=by intro _;rfl)
  (hsw:cy (.ListComp elt [⟨tg,iter,ifs,0⟩] scope pos) (some (.Name y py)) spos.line X.env=pure true:=by rfl)
  (hfy:X.fn y=true\/X.env.scope.names.lookup y=some .local:=by first|exact .inl rfl|exact .inr rfl|assumption):
  PS X (.Assign [.Name y py] (.ListComp elt [⟨tg,iter,ifs,0⟩] scope pos) spos) (zf (AY wi g tt te k cap) (vE i)):=by
 intro pins s σ H D I h;rw[exec_Assign_Name_used _ _ _ _ hsw];refine ae (hJ (ae ?_));show ag _ X.A (do let _<-comprehension (.ListComp elt [⟨tg,iter,ifs,0⟩] scope pos) scope X.env _ (newList []) false (eval iter X.env) (some (assign (.Name y py) X.env))) _ _ s;refine ae (bH (DP (P:=λ_ s'=>SP X pins D .next s') hc hi body hkind hcell hloc hfree hlen hcap hcf hs I h λa C m u s4 H3 hn back fpC qn=>?_) (λ_ s' hq=>ai (ai hq)) λ_ _ e=>e);obtain⟨oC,esC,nC,gC,dC,rC⟩:=id hn;have I7:=back.pinned (fp:=[C]) (λb hb=>aX.mp hb▸fpC) (λb hb=>aX.mp hb▸⟨oC,gC,λv z=>by rw[dC]at z;cases z⟩);show ag _ X.A (assign (.Name y py) X.env (.ref a)) _ _ s4;refine thn (HQ (pos:=py) hN hy hyl hfy _ s4 σ H3 (.ref a) (.ref a) (λσ' H'=>D.nx σ' H') I7 rfl qn) λ_ s6 zz=>?_;obtain⟨σ6,H6,I8,q6⟩:=zz;obtain⟨p1,p2,_⟩:=I8.pin (C,oC) (aZ _ (aZ _ (uW (by simp) gC)));exact⟨m,⟨oC,esC,nC,p1,dC,rC⟩,λh' hs'=>⟨σ6,H6,I8.unpinned.turned (t':=s6.toks) (λb o hb e=>(hs'.2 b hb).trans e) p2 fpC.2.1 fpC.2.2.2.1 fpC.2.2.2.2.1 fpC.2.2.2.2.2,q6⟩⟩
end L3
namespace L4
open PySem PySem.Spec PyProof.Rows L2 L3
variable{st:Stmt}{te:TE}{i:Nat}{ft:FT}{fe:FE}
section
variable{X:Cx}{G:Bg}
theorem Cf{te':TE}{g:TG}(h:PS X st (zf te g))(w:∀σ H Q,te' σ H Q->te σ H Q):PS X st (zf te' g):=PS.weak h λE σ H hh=>w _ _ _ hh
theorem JX{k:Nat}{cap:List Nat}{s:FA}{g:FG}(nd:cap.Nodup)(h:PS X st (zf (AY (tFI G s) (tFG G k g) (tFT G ft) (tF G fe) k cap) (vE i))):PS X st (tFS G (qT i (pH k cap s g ft fe))):=FJ (Cf h (EL nd))
theorem Lx{k:Nat}{cap:List Nat}{s:FA}{g:FG}(nd:cap.Nodup)(h:PS X st (zf (AY (tFI G s) (tFG G k g) (tFT G ft) (tF G fe) k cap) (vE i))):PS X st (tFS G (p6 i (cL (pH k cap s g ft fe)))):=Iq (Cf (Cf h (EL nd)) UH)
end
variable{es0 es':List D}{np:Nat}
section
variable{f g h:FS}{c:FT}{e e' e2:FE}{a a':FA}{ρ ρ' ρ1 ρ2 ρ3:List Sl}{d x y z:D}{o:Out}{ds xs ys:List D}
theorem px(h:f ρ=some (.nx ρ')):pA f g ρ=g ρ':=by unfold pA;rw[h]
theorem p9(h:f ρ=some (.rt d ρ')):pA f g ρ=some (.rt d ρ'):=by unfold pA;rw[h]
theorem pR(h:c ρ=some (true,ρ')):sIf c f g ρ=f ρ':=by unfold sIf;rw[h]
theorem qz(h:c ρ=some (false,ρ')):sIf c f g ρ=g ρ':=by unfold sIf;rw[h]
theorem pO(h:e ρ=some (d,ρ')):p6 i e ρ=some (.nx (ρ'.set i (.im d))):=by unfold p6;rw[h]
theorem xa(h:a ρ=some (ds,ρ')):qT i a ρ=some (.nx (ρ'.set i (.ls ds))):=by unfold qT;rw[h]
theorem qa(h:e ρ=some (d,ρ')):pU e ρ=some (.rt d ρ'):=by unfold pU;rw[h]
theorem se(h:a ρ=some (ds,ρ')):qQ a ρ=some (.rn ds ρ'):=by unfold qQ;rw[h]
theorem qF(h:e ρ=some (d,ρ')):qb e ρ=some (.nx ρ'):=by unfold qb;rw[h]
theorem FW{k:Nat}{j:Int}(h:e ρ=some (d,ρ1))(h1:q9 ρ1 i=some ds)(h2:ixN ds.length j=some k):vU i j e ρ=some (.nx (putAt ρ1 i (ds.set k d))):=by unfold vU;rw[h];simp only[h1,h2]
theorem pT{g:D->D->Option D}(h1:e ρ=some (x,ρ1))(h2:e' ρ1=some (y,ρ2))(h3:g x y=some z):c2 g e e' ρ=some (z,ρ2):=by unfold c2;rw[h1];simp only[h2,h3]
theorem qv{g:D->Option D}(h1:e ρ=some (x,ρ1))(h3:g x=some z):c1 g e ρ=some (z,ρ1):=by unfold c1;rw[h1];simp only[h3]
theorem Cg(h1:e (ρ.map Sl.bor)=some (d,ρ1))(hf:sq d=true):vb e ρ=some (d,ρ):=by unfold vb;rw[h1];simp only[hf,if_true]
theorem EO{b:Bool}(h1:c (ρ.map Sl.bor)=some (b,ρ1)):uo c ρ=some (b,ρ):=by unfold uo;rw[h1]
theorem rb{b:Bool}(h1:e ρ=some (.bl b,ρ1)):cT e ρ=some (b,ρ1):=by unfold cT;rw[h1]
theorem zS{b:Bool}(h1:c ρ=some (b,ρ1)):rO c ρ=some (!b,ρ1):=by unfold rO;rw[h1]
theorem vV{b:Bool}{c':FT}(h1:c ρ=some (false,ρ1))(h2:c' ρ1=some (b,ρ2)):tL c c' ρ=some (b,ρ2):=by unfold tL;rw[h1];exact h2
theorem pB(h1:e ρ=some (d,ρ1))(h2:a ρ1=some (ds,ρ2)):aCons e a ρ=some (d::ds,ρ2):=by unfold aCons;rw[h1];simp only[h2]
theorem pz{α:Type}{g:List D->Option α}{r:α}(h1:a ρ=some (ds,ρ1))(h2:g ds=some r):Av g a ρ=some (r,ρ1):=by unfold Av;rw[h1];simp only[h2]
theorem qu(h1:a ρ=some (ds,ρ1)):cL a ρ=some (.lst ds,ρ1):=by unfold cL;rw[h1]
theorem Ly(h1:a ρ=some (ds,ρ1))(hl:ds.length<=1000):pN a ρ=some (ds,ρ1):=by unfold pN;rw[h1];simp only[hl,if_true]
theorem qP(h1:e ρ=some (.lst xs,ρ1))(h2:e' ρ1=some (.lst ys,ρ2))(hl:xs.length+ys.length<=1000):qS e e' ρ=some (xs++ys,ρ2):=by unfold qS;rw[h1];simp only[h2,hl,if_true]
theorem sR{g:List D->List D->Option (D×List D)}{es:List D}(h0:q9 ρ i=some es0)(h1:a ρ=some (ds,ρ1))(h2:q9 ρ1 i=some es)(h3:g es ds=some (d,es')):p8 g i a ρ=some (d,putAt ρ1 i es'):=by unfold p8;rw[h0];simp only[h1,h2,h3]
theorem yb{es:List D}(h0:q9 ρ i=some es0)(h1:e ρ=some (d,ρ1))(h2:q9 ρ1 i=some es)(hl:es.length<1000):vT i e ρ=some (.non,putAt ρ1 i (es++[d])):=by unfold vT;rw[h0];simp only[h1,h2,hl,if_true]
theorem LA{es:List D}(h0:q9 ρ i=some es0)(h1:a ρ=some (ds,ρ1))(h2:q9 ρ1 i=some es)(hl:es.length+ds.length<=1000):Bw i a ρ=some (.non,putAt ρ1 i (es++ds)):=by unfold Bw;rw[h0];simp only[h1,h2,hl,if_true]
theorem sG{s:FA}{g:FG}(h1:s ρ=some (ds,ρ1)):u4 s g f ρ=forL g f ds ρ1:=by unfold u4;rw[h1]
theorem zT{k:Nat}{cap:List Nat}{s:FA}{g:FG}(h1:s ρ=some (ds,ρ1))(hl:ds.length<=1000):pH k cap s g ft fe ρ=u5 k cap g ft fe ds ρ1:=by unfold pH;rw[h1];simp only[hl,if_true]
theorem vX{n:Nat}{b:FS}{es:List D}(hl:ds.length=np)(h:b (L4.stM n es ds)=some (.rt d ρ))(h0:zM ρ=some es'):fnM np n b es ds=some (d,es'):=by unfold fnM;rw[ah hl,h];simp only[h0]
theorem AA{n:Nat}{b:FS}{es:List D}(hl:ds.length=np)(h:b (L4.stM n es ds)=some (.rn xs ρ))(h0:zM ρ=some es'):fnM np n b es ds=some (.lst xs,es'):=by unfold fnM;rw[ah hl,h];simp only[h0]
theorem vc{n:Nat}{b:FS}(hl:ds.length=np)(h:b (L4.stE n ds)=some (.rn xs ρ)):fnN np n b ds=some xs:=by unfold fnN;rw[ah hl,h]
theorem qk{n:Nat}{b:FS}(hl:ds.length=np)(h:b (L4.stE n ds)=some (.rt d ρ)):fnD np n b ds=some d:=by unfold fnD;rw[ah hl,h]
theorem ER{l:List L3.Dq}{neg:Bool}(h:um ds=some l)(hd:qX l<=19):dEq neg (.lst ds) (.lst ds)=some (.bl (!neg)):=by
 have e0:EM neg (.lst ds) (.lst ds)=none:=rfl;have e1:toD (.lst ds)=some (.lst l):=by unfold toD;rw[h]
 have e2:dpt (.lst l)=qX l+1:=by rw[dpt]
 unfold dEq;rw[e0];simp only;unfold JP;rw[e1];simp only;rw[ah (by simp only[aF,bw];exact⟨⟨rfl,by omega⟩,by omega⟩),L3.Fy];cases neg<;>rfl
end
def qp(es:List D):Prop:=(∃c,es=[.int c])\/∃q r n,es=[.int q,.int r,.int n]
theorem uT{a b:Int}(h:w9 a=true\/w9 b=true):sZ (.int a) (.int b)=some (.int (a * b)):=by unfold sZ dI;simp only;rw[ah (by simpa using h)]
theorem yK{a b:Int}(h:0<b):ua (.int a) (.int b)=some (.int (a % b)):=by unfold ua dI;simp only;rw[ah (by simpa using h)]
theorem div_pos{a b:Int}(h:0<b)(h':b<1073741824):yY (.int a) (.int b)=some (.int (a / b)):=by unfold yY dI;simp only;rw[ah (by simp[h,h'])]
theorem FX{a:Int}(h:0<=a)(h':a<2147483647):w9 a=true:=by unfold w9;simp only[aF,bw];omega
def yV:D->Option Key
 |.int i=>some (.inl i)
 |.str x=>some (.inr x)
 |_=>none
def vH:List Key->List D->Key->Option D
 |k::ks,d::ds,j=>if k=j then some d else vH ks ds j
 |_,_,_=>none
def OA(ks:List Key)(ds:List D)(k:Key)(d:D):List D:=fw (λk' d'=>if k'=k then d else d') ks ds
def BA(ks:List Key)(k:Key):Bool:=ks.any λk'=>decide (k'=k)
variable{d:D}{a:Addr}{o:Obj}{kvs:List (Key×V)}{b tg e:Expr}{f f' fk:FE}{pos apos cpos:Pos}
section
variable{X:Cx}{G:Bg}{H:Hp}
theorem yL{v:V}{k:Key}(h:Rep G H d v)(e:yV d=some k):v=kV k:=by
 cases d<;>first|cases e|skip
 all_goals (unfold Rep at h;exact h)
theorem zU:∀{ks:List Key} {ds:List D} {xs:List V} (j:Key),pE G H ds xs->ks.length=xs.length->match vH ks ds j with
  |some d=>∃v,tY (ks.zip xs) j=some v/\Rep G H d v
  |none=>tY (ks.zip xs) j=none
 |[],ds,xs,j,r,l=>by cases ds<;>rfl
 |k::ks,ds,[],j,r,l=>by cases l
 |k::ks,[],x::xs,j,r,l=>by unfold pE at r;cases r
 |k::ks,d::ds,x::xs,j,r,l=>by
  unfold pE at r;obtain⟨v,q,e,h1,h2⟩:=r;cases e;unfold vH;by_cases hk:k=j
  ·rw[ah hk];exact⟨x,zI (p:=(k,x)) hk,h1⟩
  ·rw[aj hk];have ih:=zU (ks:=ks) (ds:=ds) (xs:=xs) j h2 (by simpa using l);have e1:tY ((k::ks).zip (x::xs)) j=tY (ks.zip xs) j:=zJ (p:=(k,x)) hk;rw[e1];exact ih
theorem ES{k:Key}:∀{ks:List Key} {xs:List V},ks.length=xs.length->((ks.zip xs).any λkv=>decide (kv.1=k))=BA ks k
 |[],xs,_=>by cases xs<;>rfl
 |k'::ks,[],l=>by cases l
 |k'::ks,x::xs,l=>by unfold BA;rw[du,d8,d8,ES (by simpa using l)];rfl
theorem IB{k:Key}{v:V}:∀{ks:List Key} {xs:List V},ks.length=xs.length->(ks.zip xs).map (λkv=>if kv.1=k then (kv.1,v)else kv)=ks.zip (fw (λk' x=>if k'=k then v else x) ks xs)
 |[],xs,_=>by cases xs<;>rfl
 |k'::ks,[],l=>by cases l
 |k'::ks,x::xs,l=>by
  rw[du,aG,IB (by simpa using l),gH,du];congr 1;by_cases hk:k'=k
  ·rw[ah hk,ah hk]
  ·rw[aj hk,aj hk]
theorem FY{k:Key}{d:D}{v:V}(hd:Rep G H d v):∀{ks:List Key} {ds:List D} {xs:List V},pE G H ds xs->ks.length=xs.length->pE G H (OA ks ds k d) (fw (λk' x=>if k'=k then v else x) ks xs)
 |[],ds,xs,r,l=>by unfold OA;cases ds<;>cases xs<;>exact qf
 |k'::ks,ds,[],r,l=>by cases l
 |k'::ks,[],x::xs,r,l=>by unfold pE at r;cases r
 |k'::ks,d'::ds,x::xs,r,l=>by
  unfold pE at r;obtain⟨w,q,e,h1,h2⟩:=r;cases e;unfold OA;rw[gH,gH];refine qr ?_ (FY hd h2 (by simpa using l));by_cases hk:k'=k
  ·rw[ah hk,ah hk];exact hd
  ·rw[aj hk,aj hk];exact h1
theorem _root_.L2.DGet.kf{H:Hp}{k:Key}(e:H a=some (.frz o (.dK kvs))):DGet H a (kV k) (tY kvs k):=.inl ⟨kvs,k,.inr ⟨o,e⟩,rfl,rfl⟩
def y4:D->D->Option D:=λx y=>match x,yV y with
 |.dic ks ds,some k=>vH ks ds k
 |_,_=>none
theorem OB{a:Expr}(hu:X.A.units+1<cLine)(ha:PE X a (tF G f))(hb:PE X b (tF G f'))(hs:QB b:=by exact λ_ _=>rfl):PE X (.Subscript a b pos) (tF G (c2 y4 f f')):=PE.weak (NJ hu ha hb hs) λσ H Q hh=>by
 obtain⟨F,ρ,H0,d,ρ',R,e,k⟩:=hh;obtain⟨x,y,ρ1,e1,e2,e3⟩:=BG e;refine⟨F,ρ,H0,x,ρ1,R,e1,λv H1 H1' s1 R1 r1=>⟨F,ρ1,H1,y,ρ',R1,e2,λu H2 H2' s2 R2 r2=>?_⟩⟩;have r1':=Rep.mono s2 _ _ r1;cases x with
 |dic ks ds=>
  unfold y4 at e3;cases ek:yV y with
  |none=>simp only[ek]at e3;cases e3
  |some j=>simp only[ek]at e3;unfold Rep at r1';obtain⟨p,ob,xs,rfl,h1,h2,h3⟩:=r1';have lv:=zU (ks:=ks) j h3 h2;rw[e3]at lv;obtain⟨w,w1,w2⟩:=lv;refine⟨p,w,rfl,?_,k w H2 H2' (s1.trans s2) R2 w2⟩;rw[yL r2 ek,<- w1];exact DGet.kf (R2.sub _ _ h1)
 |_=>unfold y4 at e3;cases e3
def xJ:D->D->Option D:=λx y=>match x,yV y with
 |.dic ks ds,some k=>some ((vH ks ds k).getD .non)
 |_,_=>none
theorem LB{a:Expr}(hu:X.A.units+1<cLine)(ha:PE X a (tF G f))(hb:PE X b (tF G f'))(m:M1 X a "get" apos b cpos):PE X (.Call (.Attribute a "get" apos) [b] [] cpos) (tF G (c2 xJ f f')):=PE.weak (KO hu ha hb m) λσ H Q hh=>by
 obtain⟨F,ρ,H0,d,ρ',R,e,k⟩:=hh;obtain⟨x,y,ρ1,e1,e2,e3⟩:=BG e;cases x with
 |dic ks ds=>
  refine⟨F,ρ,H0,_,ρ1,R,e1,λv H1 H1' s1 R1 r1=>?_⟩;have r1':=r1;unfold Rep at r1';obtain⟨p,ob,xs,rfl,h1,h2,h3⟩:=r1';refine⟨p,rfl,.inl ⟨_,.inr ⟨_,R1.sub _ _ h1⟩⟩,F,ρ1,H1,y,ρ',R1,e2,λu H2 H2' s2 R2 r2=>?_⟩;unfold xJ at e3;cases ek:yV y with
  |none=>simp only[ek]at e3;cases e3
  |some j=>
   simp only[ek]at e3;cases e3;have lv:=zU (ks:=ks) j (pE.mono s2 _ _ h3) h2;refine⟨tY (ks.zip xs) j,?_,?_⟩
   ·rw[yL r2 ek];exact DGet.kf (R2.sub _ _ (s2 _ _ h1))
   ·cases el:vH ks ds j with
    |none=>rw[el]at lv k;rw[lv];exact k _ H2 H2' (s1.trans s2) R2 uK
    |some z=>rw[el]at lv k;obtain⟨w,w1,w2⟩:=lv;rw[w1];exact k _ H2 H2' (s1.trans s2) R2 w2
 |_=>unfold xJ at e3;cases e3
def DY(i:Nat):FS:=λρ=>some (.nx (ρ.set i (.dk [] [])))
theorem LC(h:PS X st (zf GU (vE i))):PS X st (tFS G (DY i)):=PS.weak h λE σ H hh=>by obtain⟨F,ρ,H0,o,R,e,k,k2⟩:=hh;cases e;intro p hp;have R1:=R.newOwn hp (.dK []);refine k _ _ _ (pL.refl _) (R1.set (s:=.dk [] []) ⟨p,[],rfl,pK,R.h0none hp,R.bNone hp,rfl,qf⟩ λ_ a ea j t _ ej to=>?_);cases ea;exact R.apart hp j t ej to
def uz(i:Nat)(fk fv:FE):FS:=λρ=>match fv ρ with
 |some (d,ρ1)=>match ρ1[i]? with
  |some (.dk _ _)=>match fk ρ1 with
   |some (y,ρ2)=>match yV y with
    |some k=>match ρ2[i]? with
     |some (.dk ks ds)=>if ks.length<1000 then if ds.length=ks.length then some (.nx (ρ2.set i (if BA ks k=true then .dk ks (OA ks ds k d)else .dk (ks++[k]) (ds++[d]))))else none else none
     |_=>none
    |none=>none
   |none=>none
  |_=>none
 |none=>none
theorem LD{fv:FE}(h:PS X st (Pr (wy i) (tF G fk) (tF G fv))):PS X st (tFS G (uz i fk fv)):=PS.weak h λE σ H hh=>by
 obtain⟨F,ρ,H0,o,R,e,k,k2⟩:=hh;unfold uz at e;rcases qc (f:=fv) (ρ:=ρ)with e1|⟨d,ρ1,e1⟩<;>simp only[e1]at e
 ·cases e
 split at e
 ·rename_i ks0 ds0 ei;rcases qc (f:=fk) (ρ:=ρ1)with e2|⟨y,ρ2,e2⟩<;>simp only[e2]at e
  ·cases e
  cases ek:yV y with
  |none=>simp only[ek]at e;cases e
  |some j=>
   simp only[ek]at e;split at e
   ·rename_i ks ds ei2;split at e
    ·rename_i hl;split at e
     ·rename_i hl2;cases e;refine⟨F,ρ,H0,d,ρ1,R,e1,λv H1 H1' s1 R1 r1=>?_⟩;obtain⟨a0,xs0,a1,_⟩:=R1.sl i _ ei;refine⟨_,tK a1,F,ρ1,H1,y,ρ2,R1,e2,λu H2 H2' s2 R2 r2=>?_⟩;obtain⟨a,xs,b1,b2,b3,b4,b5,b6⟩:=R2.sl i _ ei2;rw[a1]at b1;cases b1;refine⟨a0,upd H2' a0 (.dK (putK (ks.zip xs) j v)),rfl,?_,?_⟩
      ·rw[yL r2 ek];exact KJ.k b2 (by rw[fU];exact gV (Nat.min_le_left _ _) (yI (by omega)))
      ·have rv:=Rep.mono s2 _ _ r1;refine k _ _ _ (s1.trans s2) (R2.mut ei2 rfl a1 (λH' hH=>?_) ?_)
       ·by_cases hk:BA ks j=true
        ·rw[ah hk];refine⟨a0,fw (λk' x=>if k'=j then v else x) ks xs,rfl,?_,b3,b4,by rw[iH,b5,fY],FY rv b6 b5⟩;rw[hH];unfold putK;rw[ES b5,ah hk,IB b5]
        ·rw[aj hk];refine⟨a0,xs++[v],rfl,?_,b3,b4,by rw[au,au,b5];rfl,rq b6 (qr rv qf)⟩;rw[hH];unfold putK;rw[ES b5,aj hk,jb b5];rfl
       ·split<;>rfl
     ·cases e
    ·cases e
   ·cases e
 ·cases e
def Ci:D->Option D
 |.lst ds=>(Dv ds).map λbs=>.bl (bs.any id)
 |_=>none
theorem JY(hc:X.calm=true)(hK:X.K=G.K:=by rfl):rY X (.builtin "any") (λxs H Q=>∃(p:Addr) (bs:List Bool),xs=[.ref p]/\SqL G.K H p (bs.map V.bl)/\Q (.bl (bs.any id)) H):=by
 rw[<-hK];intro pins s σ H xs us Q I r h;obtain⟨p,bs,rfl,hq,q⟩:=h;obtain⟨u,rfl,ru⟩:=vals1 r;cases ru;obtain⟨its,rv,pl,hz⟩:=I.list hq;have hlt:p<s.heap.objs.size:=by obtain⟨o,ho,_⟩:=pl.isList;exact aD ho
 have hl:bs.length=its.length:=by have:=rv.length;rw[af]at this;exact this
 refine call_any_walk (dW pl.isList ⟨s.heap.objs.size,_,_,_,_,_,λi=>(bs[i]?).getD false,rfl,gb (show X.A.in1.handled=none from I.ok.hd hc) _ p (aI hlt) its.toArray,⟨⟨_,aU _ rfl,rfl,rfl⟩,?_⟩,?_,λh' tk hk=>?_⟩)
 ·exact pl.isList.at λo e=>aA _ e
 ·intro i v s' Q' E' hv hQ';have hv':its[i]?=some v:=by simpa using hv
  have hi:i<its.length:=(bE.mp hv').1;have hb:(bs.map V.bl)[i]?=some (.bl (bs[i]'(by omega))):=by simp[show i<bs.length by omega]
  obtain⟨u,hu,ru⟩:=rv.get hb;rw[hv']at hu;cases hu;cases ru;refine cq ?_;have e:(bs[i]?).getD false=bs[i]'(by omega):=by simp[show i<bs.length by omega]
  rw[<-e];exact hQ'
 ·refine⟨.bl (bs.any id),H,?_,?_,q⟩
  ·exact I.kept (t':=tk) λb o e=>hk b o (by simp;exact aI (aD e)) (aA _ e)
  ·show Value.bool _=Value.bool _;congr 1;rw[aM,<- hl];rw[cE];simp only[dA,bo,id];constructor
   ·rintro⟨i,hi,h⟩;exact⟨bs[i],dX hi,by simpa [hi]using h⟩
   ·rintro⟨b,hb,h⟩;obtain⟨i,hi,rfl⟩:=kg.mp hb;exact⟨i,hi,by simpa [hi]using h⟩
theorem Rk:Cd G (λxs H Q=>∃(p:Addr) (bs:List Bool),xs=[.ref p]/\SqL G.K H p (bs.map V.bl)/\Q (.bl (bs.any id)) H) Ci:=λx z H0 H v Q e s rx k=>by
 cases x with
 |lst ds=>
  unfold Ci at e;simp only at e;cases e1:Dv ds with
  |none=>rw[e1]at e;cases e
  |some bs=>rw[e1]at e;cases e;unfold Rep at rx;obtain⟨a,xs,rfl,h1,h2⟩:=rx;rw[Ce h2 e1]at h1;exact⟨a,bs,rfl,s.seq (SqL.of h1),k _ λ_ _=>sk _⟩
 |_=>cases e
def iS(f:FE):FA:=λρ=>match f ρ with
 |some (.str x,ρ')=>some (x.cps.toList.map λc=>D.str ⟨#[c]⟩,ρ')
 |_=>none
theorem OC(h:PI X tg e (UA (tF G f))):PI X tg e (tFI G (iS f)):=PI.weak h λσ H R hh=>by
 obtain⟨F,ρ,H0,ds,ρ',R,e,k⟩:=hh;unfold iS at e;split at e
 ·rename_i x ρ1 e1;cases e;refine⟨F,ρ,H0,_,_,R,e1,λv H1 H1' s R' r=>?_⟩;unfold Rep at r;refine⟨x,r,k _ _ _ s R' λi H2 H2' t t'=>⟨λd ed=>?_,λhl=>?_⟩⟩
  ·rw[bb]at ed;cases ec:x.cps.toList[i]? with
   |none=>rw[ec]at ed;cases ed
   |some c=>
    rw[ec]at ed;cases ed;have ec':x.cps[i]?=some c:=by simpa using ec
    refine⟨(jS.mp ec').1,λz H3 y=>?_⟩;obtain⟨e3,c',hc',rfl⟩:=y;rw[ec']at hc';cases hc';subst e3;exact⟨H2,pL.refl _,t',pL.refl _,λb o e=>.inl e,uJ _⟩
  ·show i=x.cps.size;rw[hl,af];simp
 ·cases e
def A1(f g:FE):FE:=λρ=>match f ρ with
 |some (.tup (x::xs),ρ1)=>match g ρ1 with
  |some (.tup ys,ρ2)=>if xs.length+ys.length<=900 then some (.tup (x::xs++ys),ρ2)else none
  |_=>none
 |_=>none
theorem OD{a:Expr}{g:FE}(ha:PE X a (tF G f))(hb:PE X b (tF G g))(hK:X.K=G.K:=by rfl):PE X (.BinOp a .Add b pos) (tF G (A1 f g)):=PE.weak (HU ND ha hb) λσ H Q hh=>by
 rw[hK];obtain⟨F,ρ,H0,d,ρ',R,e,k⟩:=hh;unfold A1 at e;split at e
 ·rename_i x xs ρ1 e1;split at e
  ·rename_i ys ρ2 e2;split at e
   ·rename_i hl;cases e;refine⟨F,ρ,H0,_,ρ1,R,e1,λv H1 H1' s R' r=>⟨F,ρ1,H1,_,_,R',e2,λu H2 H2' s2 R2 r2=>?_⟩⟩;have r':=Rep.mono s2 _ _ r;have r0:=r';unfold Rep at r' r2;obtain⟨a1,xs1,rfl,h1,h2⟩:=r';obtain⟨a2,xs2,rfl,h3,h4⟩:=r2;have l1:=pF h2;have l2:=pF h4;rw[aB]at l1;refine⟨a1,a2,xs1,xs2,rfl,rfl,SqT.mono R2.sub h1,SqT.mono R2.sub h3,(λz=>by rw[z]at l1;cases l1),by rw[<-l1,<- l2];exact sj (by omega),λz=>?_,λ_ p hp=>?_⟩
    ·have ey:ys=[]:=by rw[z]at l2;exact gz.mp l2
     subst ey;rw[bA]at k;exact k _ _ _ (s.trans s2) R2 r0
    ·exact k _ _ _ ((s.trans s2).trans (pX (R2.h0none hp) _)) (R2.newIm hp _) (BF (SqT.of pK) (pE.mono (pX (R2.h0none hp) _) _ _ (rq h2 h4)))
   ·cases e
  ·cases e
 ·cases e
end
section
variable{X:Cx}{G:Bg}
abbrev FO:=List Sl->Option (Option Int×List Sl)
def tFO(G:Bg)(f:FO):TO:=λσ H Q=>∃F ρ H0 d ρ',pV G F σ ρ H0 H/\f ρ=some (d,ρ')/\∀H0' H',pL H0 H0'->pV G F σ ρ' H0' H'->Q d H'
def oNo:FO:=λρ=>some (none,ρ)
def oAt(f:FE):FO:=λρ=>match f ρ with
 |some (.int i,ρ')=>some (some i,ρ')
 |_=>none
theorem PO.weak{e:Option Expr}{t t':TO}(h:PO X e t)(w:∀σ H Q,t' σ H Q->t σ H Q):PO X e t':=λpins s σ H Q I hq=>h pins s σ H Q I (w _ _ _ hq)
theorem Rm:PO X none (tFO G oNo):=PO.weak Ia λσ H Q hh=>by obtain⟨F,ρ,H0,d,ρ',R,e,k⟩:=hh;cases e;exact k _ _ (pL.refl _) R
theorem Ro(h:PE X e (tF G f)):PO X (some e) (tFO G (oAt f)):=PO.weak (Ib h) λσ H Q hh=>by
 obtain⟨F,ρ,H0,d,ρ',R,e,k⟩:=hh;unfold oAt at e;split at e
 ·rename_i i ρ1 e1;cases e;refine⟨F,ρ,H0,_,_,R,e1,λv H1 H1' s R' r=>?_⟩;unfold Rep at r;exact⟨i,r,k _ _ s R'⟩
 ·cases e
def zk(f:FE)(lo hi:FO):FA:=λρ=>match f ρ with
 |some (d,ρ1)=>match d with
  |.lst ds=>match lo ρ1 with
   |some (l,ρ2)=>match hi ρ2 with
    |some (h,ρ3)=>some (cutD ds l h,ρ3)
    |none=>none
   |none=>none
  |.fzl ds=>match lo ρ1 with
   |some (l,ρ2)=>match hi ρ2 with
    |some (h,ρ3)=>some (cutD ds l h,ρ3)
    |none=>none
   |none=>none
  |_=>none
 |none=>none
theorem G5{lo hi:FO}(h:PE X e (tSl (NG G.K) (tF G f) (tFO G lo) (tFO G hi))):PE X e (tFN G (zk f lo hi)):=PE.weak h λσ H Q hh=>by
 obtain⟨F,ρ,H0,ds,ρ',R,e,k⟩:=hh;unfold zk at e;rcases qc (f:=f) (ρ:=ρ)with e1|⟨d,ρ1,e1⟩<;>simp only[e1]at e
 ·cases e
 have gen:∀(xs:List D),(∀{H1:Hp} {v:V},Rep G H1 d v->∃a ys,v=.ref a/\SqL G.K H1 a ys/\pE G H1 xs ys)->(match lo ρ1 with
   |some (l,ρ2)=>match hi ρ2 with
    |some (h,ρ3)=>some (cutD xs l h,ρ3)
    |none=>none
   |none=>none)=some (ds,ρ')->tSl (NG G.K) (tF G f) (tFO G lo) (tFO G hi) σ H Q:=λxs rd e=>by
  rcases qc (f:=lo) (ρ:=ρ1)with e2|⟨l,ρ2,e2⟩<;>simp only[e2]at e
  ·cases e
  rcases qc (f:=hi) (ρ:=ρ2)with e3|⟨u,ρ3,e3⟩<;>simp only[e3]at e
  ·cases e
  cases e;refine⟨F,ρ,H0,d,ρ1,R,e1,λv H1 H1' s1 R1 r1=>⟨F,ρ1,H1,l,ρ2,R1,e2,λH2 H2' s2 R2=>⟨F,ρ2,H2,u,_,R2,e3,λH3 H3' s3 R3=>?_⟩⟩⟩;obtain⟨a,ys,rfl,q1,q2⟩:=rd (Rep.mono (s2.trans s3) _ _ r1);exact⟨a,ys,rfl,R3.sub.seq q1,λp hp=>k p _ _ _ (s1.trans (s2.trans s3)) (R3.newOwn hp _) pK (R3.h0none hp) (R3.bNone hp) (R3.apart hp) (FU q2)⟩
 cases d with
 |lst xs=>exact gen xs (λr=>by unfold Rep at r;obtain⟨a,ys,rfl,q1,q2⟩:=r;exact⟨a,ys,rfl,SqL.of q1,q2⟩) e
 |fzl xs=>exact gen xs (λr=>by unfold Rep at r;exact r) e
 |_=>cases e
def Cj:D->D->Option D
 |.str x,.int n=>if 0<=n/\n<=1000/\x.length<=100 then some (.str (jN x n))else none
 |_,_=>none
end
variable{t:Ty->Option Bool}
section
variable{X:Cx}{G:Bg}
def Ck(G:Bg)(c:Nat)(t:Ty->Option Bool):Prop:=(∀y b,t y=some b->cj G.K (y.val G) (.ref (G.ca c))=some b)/\∀j b,t (.c j)=some b->FR G.K (G.ca j)
theorem G6{c:Nat}(h:Ck G c t)(hK:X.K=G.K:=by rfl):rY X (.builtin "isinstance") (λxs H Q=>∃d x b,xs=[x,(Ty.c c).v G]/\Rep G H d x/\t (tyD d)=some b/\Q (.bl b) H):=
 DX (X:=X) (.c c) (by rw[hK];exact h.1) (by rw[hK];exact h.2) hK
end
def ddp(acc:List Key)(k:Key):List Key:=if acc.any (λz=>decide (z=k))then acc else acc++[k]
def vC(ks:List Key):List Key:=ks.foldl ddp []
theorem OE(acc:List Key)(k j:Key):(ddp acc k).any (λz=>decide (z=j))=(acc.any (λz=>decide (z=j))||decide (j=k)):=by
 unfold ddp;by_cases h:acc.any (λz=>decide (z=k))=true
 ·rw[ah h];by_cases e:j=k
  ·subst e;rw[h];simp
  ·simp[e]
 ·rw[aj h,List.any_append];by_cases e:j=k
  ·subst e;simp
  ·have hb:¬k=j:=λz=>e z.symm;simp[hb,e]
theorem IC(acc:List Key)(k:Key):(ddp acc k).length=if acc.any (λz=>decide (z=k))=true then acc.length else acc.length+1:=by unfold ddp;split<;>simp
theorem DZ(ks:List Key)(i:Nat)(h:i<ks.length):vC (ks.take (i+1))=ddp (vC (ks.take i)) ks[i]:=by unfold vC;rw[iV,aY h,kR];rfl
theorem LF(ks:List Key):(vC ks).length<=ks.length:=by
 have gen:∀(l:List Key) (acc:List Key),(l.foldl ddp acc).length<=acc.length+l.length:=by
  intro l
  induction l with
  |nil=>intro acc;simp
  |cons k l ih=>
   intro acc;rw[fS,aB];have h1:=ih (ddp acc k);have h2:(ddp acc k).length<=acc.length+1:=by rw[IC];split<;>omega
   omega
 have:=gen ks [];simpa [vC]using this
theorem set_same{prog:ar}{w:aq}{h:Heap}{S S':Key->Bool}{n n':Nat}(hS:h.SetOf (pZ prog w) a S n)(e:∀k,S k=S' k)(en:n=n'):h.SetOf (pZ prog w) a S' n':=by obtain rfl:S=S':=funext e;subst en;exact hS
section
variable{prog:ar}{w:aq}{A:av}{R:cR->ab->Prop}{I:Addr}{fp wr:List Addr}{GG:Array dh->Array dh->Prop}{n:Nat}{PP:Nat->aa->Prop}{SS:Nat->ab->Prop}
theorem LG(W:WalksS prog w A.in1 I fp wr GG n PP SS)(S:Addr)(hSf:S∉fp)(ks:List Key)(hn:ks.length=n)
  (hval:∀i v (h:i<ks.length),PP i v->(pZ prog w).is ks[i] v=true/\v.scannable=true) (hb:n+1<scanBound):∀(k i:Nat) (s:ab),n - i=k->i<=n->SS i s->
   s.heap.SetOf (pZ prog w) S (λj=>(vC (ks.take i)).any (λz=>decide (z=j))) (vC (ks.take i)).length->
   (∀s',Moved (S::wr) GG s s'->s'.heap.SetOf (pZ prog w) S (λj=>(vC ks).any (λz=>decide (z=j))) (vC ks).length->R (.ok (.ret .none)) s')->
   bI (model prog w) A (.builtin "set.update.loop" ⟨[.ref S,.ref I],[]⟩) R s:=by
 have hSw:S∉wr:=λz=>hSf (W.sub _ z);have up:∀b∈wr,b∈S::wr:=λb z=>aO _ z;intro k
 induction k with
 |zero=>
  intro i s hk hi hst hS hR;obtain rfl:i=n:=by omega
  refine cF eJ ?_;rw[cW cz _];show ag _ A.in1 (pyNext (.ref I)>>=_) _ _ s;refine ae (W.done s _ _ hst λs' hm=>?_);show ag _ A.in1 (ret Value.none) _ _ s';rw[fH (by omega)]at hS;refine ai (hR s' (hm.mono up) ?_);obtain⟨o,es,ep,t,ho,more⟩:=hS;exact⟨o,es,ep,t,hm.heap S _ hSw ho,more⟩
 |succ k ih=>
  intro i s hk hi hst hS hR;have hlt:i<n:=by omega
  have hlk:i<ks.length:=by omega
  refine cF eJ ?_;rw[cW cz _];show ag _ A.in1 (pyNext (.ref I)>>=_) _ _ s;refine ae (W.item i s _ _ hlt hst λv s' hP hst' hm=>?_);obtain⟨kv,sc⟩:=hval i v hlk hP;have hS':s'.heap.SetOf (pZ prog w) S (λj=>(vC (ks.take i)).any (λz=>decide (z=j))) (vC (ks.take i)).length:=by obtain⟨o,es,ep,t,ho,more⟩:=hS;exact⟨o,es,ep,t,hm.heap S _ hSw ho,more⟩
  show ag _ A.in1 (holding [v] (setAdd S v)>>=_) _ _ s';refine ae (bu ?_);unfold setAdd;refine bu ?_;refine ae ((pZ prog w).pyHash (k:=ks[i]) kv ?_);have room:(vC (ks.take i)).length+1<scanBound:=by have:=LF (ks.take i);rw[bz]at this;omega
  refine wpAny_setAddHashed_of (knd:=pZ prog w) (s:={ s' with toks:=s'.toks+1 }) kv sc hS' room λh' hsb hS2=>?_;have hSi:h'.SetOf (pZ prog w) S (λj=>(vC (ks.take (i+1))).any (λz=>decide (z=j))) (vC (ks.take (i+1))).length:=
   set_same hS2 (λj=>by rw[DZ ks i hlk,OE]) (by rw[DZ ks i hlk,IC])
  refine ai ⟨d9 cz _,ih (i+1) _ (by omega) hlt (W.frame _ s' _ _ hst' (f7 _) λb z o e=>?_) hSi λs'' hm'' hS''=>?_⟩
  ·rw[hsb.2 b (λy:b=S=>hSf (by rw[<-y];exact z))];exact e
  ·refine hR s'' (ib W.gtrans ((hm.mono up).then_heap (f7 _) λb o z e=>?_) hm'') hS'';rw[hsb.2 b (λy:b=S=>z (by rw[y];exact aP))];exact e
end
theorem OF(l:Addr)(us:Array aa)(m:Nat)(b:Addr)(o:Obj)(ws:Array aa)(m2:Nat)(hc:o.cls=.type "tuple")(hd:o.data=.seq ws m2)(z0:¬(!us.isEmpty&&eI (us.size+ws.size))=true)(z1:us.size<=ay)(z2:us.size+ws.size<=ay+1):
  Meets (dj.«list.extend» ⟨[.ref l,.ref b],[]⟩) (λ_ R s=>s.heap.get? l=some { cls:=.type "list", data:=.seq us m }/\s.heap.get? b=some o/\R (.ok (.ret Value.none)) { s with heap:=s.heap.update l (cN λx=>x++ws),toks:=s.toks }):=by
 obtain⟨c,dd,data,sl⟩:=o;cases hc;cases hd;refine .of_wp λprog w A R s h=>?_;obtain⟨hp,g,d,tk,os⟩:=s;obtain⟨hl,hb,h⟩:=h;have f2:=AutoSeq1.sub_tuple_tuple;have f3:=AutoSeq1.sub_list_list;have f4:=AutoSeq1.sub_tuple_list;have f5:=AutoSeq1.sub_list_tuple;have z3:(us++ws).size<=ay+1:=Array.size_append (xs:=us) (ys:=ws)▸z2
 wp_walk using (jc hl rfl (hz:=z1) (_hz':=z3)),jU hl,jU hb
 exact⟨_,rfl,h⟩
section
variable{X:Cx}{G:Bg}
def FZ(K:ak):V->List V->Hp->VK->Prop:=λx vs H Q=>∃l b xs zs,x=.ref l/\vs=[.ref b]/\H l=some (.lst xs)/\SqT K H b zs/\xs.length+zs.length<=ay/\Q .non (upd H l (.lst (xs++zs)))
theorem G7:MtM X "list.extend" (FZ X.K):=by
 intro pins s σ H x vs v us Q I rx rv h;obtain⟨l,b,xs,zs,rfl,rfl,hH,hB,hz,q⟩:=h;cases rx;obtain⟨u,rfl,ru⟩:=rv.one;cases ru;obtain⟨z,its,n,r,hl,e⟩:=I.lstM hH;obtain⟨its2,r2,⟨o,e2,hc,n2,hd⟩,hz2⟩:=I.tuple hB;have hl2:=r2.length;have hsz:its.toArray.size+its2.toArray.size<=ay:=by rw[aM,aM];omega
 have hlong:¬(!its.toArray.isEmpty&&eI (its.toArray.size+its2.toArray.size))=true:=by rw[BV hsz,md];exact aT
 refine fz gU ⟨_,e,rfl⟩ ku (kc _ _)
  (OF l its.toArray n b o its2.toArray n2 hc hd hlong (by rw[aM];omega) (by omega)) ⟨e,e2,?_⟩
 refine⟨.non,_,I.lset (its':=its++its2) hH e (by simp) (r.append r2) ?_,rfl,q⟩;rw[au];omega
def yc(i:Nat)(f:FE):FE:=λρ=>match q9 ρ i with
 |some _=>match f ρ with
  |some (.tup es,ρ1)=>match q9 ρ1 i with
   |some ds=>if ds.length+es.length<=1000 then some (.non,putAt ρ1 i (ds++es))else none
   |none=>none
  |_=>none
 |none=>none
theorem G8(h:PE X e (tBM G.K "list" (FZ G.K) (wy i) (yW (tF G f) Dl))):PE X e (tF G (yc i f)):=PE.weak h λσ H Q hh=>by
 obtain⟨F,ρ,H0,d,ρ',R,e,k⟩:=hh;unfold yc at e;cases e0:q9 ρ i with
 |none=>simp only[e0]at e;cases e
 |some ds0=>
  simp only[e0]at e;rcases qc (f:=f) (ρ:=ρ)with e1|⟨x,ρ1,e1⟩<;>simp only[e1]at e
  ·cases e
  ·cases x with
   |tup es=>
    cases e2:q9 ρ1 i with
    |none=>simp only[e2]at e;cases e
    |some ds=>
     simp only[e2]at e;split at e
     ·rename_i hl;cases e;obtain⟨a,xs,s1,s2,s3,_⟩:=sm R e0;refine⟨.ref a,s1,.inl ⟨rfl,xs,SqL.of s2⟩,F,ρ,H0,_,ρ1,R,e1,λv H1 H1' s R' rs=>?_⟩;unfold Rep at rs;obtain⟨p,ys,rfl,hp,rs⟩:=rs;obtain⟨a',xs',t1,t2,t3,t4⟩:=sm R' e2;rw[s1]at t1;cases t1;refine⟨a,p,xs',ys,rfl,rfl,t2,SqT.mono R'.sub hp,?_,k _ _ _ s (t4 _ _ (rq t3 rs)) uK⟩;rw[<-pF t3,<- pF rs];exact sj hl
     ·cases e
   |_=>cases e
end
variable{σ:St}{u:aa}{its:List aa}
section
variable{X:Cx}{G:Bg}{H:Hp}
theorem Rp{pins:List (Addr×Obj)}{s:ab}{v:V}(I:Inv X pins σ H s)(hK:X.K=G.K)(hd:Rep G H d v)(rv:RelV v u)(hc:∀k ns ds,d=.obj k ns ds->FR X.K (G.ca k)):
  ∃HH:Heap->Prop,W.KitX X.K u ((tyD d).val G) HH/\HH s.heap/\u≠.builtin "__main__.__loader__#opaque" := by
 cases d with
 |non=>unfold Rep at hd;subst hd;cases (show u=Value.none from rv);exact⟨_,mX,True.intro,λz=>nomatch z⟩
 |bl x=>unfold Rep at hd;subst hd;cases (show u=Value.bool x from rv);exact⟨_,mY,True.intro,λz=>nomatch z⟩
 |int x=>unfold Rep at hd;subst hd;obtain⟨t,q⟩:=(show ∃t,u=Value.int x t from rv);cases q;exact⟨_,W.kitx_int,True.intro,λz=>nomatch z⟩
 |str x=>unfold Rep at hd;subst hd;obtain⟨t,q⟩:=(show ∃t,u=Value.str x t from rv);cases q;exact⟨_,W.kitx_str,True.intro,λz=>nomatch z⟩
 |tup ds=>unfold Rep at hd;obtain⟨a,xs,rfl,h1,h2⟩:=hd;cases rv;rw[<-hK]at h1;obtain⟨its,_,⟨o,q1,q2,_⟩,_⟩:=I.tuple h1;exact⟨_,jt,⟨o,q1,q2⟩,λz=>nomatch z⟩
 |lst ds=>unfold Rep at hd;obtain⟨a,xs,rfl,h1,h2⟩:=hd;cases rv;obtain⟨_,_,n,_,q⟩:=(show qL X.prog X.w H s.heap a (.lst xs) from I.hok a _ h1);exact⟨_,f6,⟨_,q,rfl⟩,λz=>nomatch z⟩
 |fzl ds=>unfold Rep at hd;obtain⟨a,xs,rfl,h1,h2⟩:=hd;cases rv;rw[<-hK]at h1;obtain⟨its,_,⟨o,n,q1,q2,_⟩,_⟩:=I.list h1;exact⟨_,f6,⟨o,q1,q2⟩,λz=>nomatch z⟩
 |dic ks ds=>unfold Rep at hd;obtain⟨a,ob,xs,rfl,h1,h2,h3⟩:=hd;cases rv;obtain⟨_,_,_,vs,_,o,es,ep,q1,q2,_⟩:=(show qL X.prog X.w H s.heap a (.frz ob (.dK (ks.zip xs))) from I.hok a _ h1);exact⟨_,ia,⟨o,q1,q2.1⟩,λz=>nomatch z⟩
 |obj k ns ds=>have ci:=hc k ns ds rfl;unfold Rep at hd;obtain⟨a,dx,xs,rfl,h1,h2,h3⟩:=hd;cases rv;obtain⟨mA,O,_⟩:=zC I.hok h1;obtain⟨od,J,_⟩:=O.look;exact⟨_,W.kitx_own (ci.cl.get _) ci.cl.hd ci.ha ci.hn ci.htk ci.hm,J,λz=>nomatch z⟩
def JZ(G:Bg)(cs:List Nat):List V:=cs.map λc=>.ref (G.ca c)
def LH(G:Bg)(cs:List Nat):List aa:=cs.map λc=>.ref (G.ca c)
theorem LI(cs:List Nat)(r:Vals (JZ G cs) its):its=LH G cs:=by
 induction cs generalizing its with
 |nil=>cases r;rfl
 |cons c cs ih=>
  cases r with
  |cons r rr=>cases r;exact bj _ (ih rr)
def ID(G:Bg)(cs:List Nat)(t:Ty->Option Bool):Prop:=(∀y b,t y=some b->W.kitAny G.K (y.val G) (LH G cs)=some b)/\∀j b,t (.c j)=some b->FR G.K (G.ca j)
theorem G9{cs:List Nat}(ht:ID G cs t)(hK:X.K=G.K:=by rfl):rY X (.builtin "isinstance") (λxs H Q=>∃d x b tp,xs=[x,.ref tp]/\H tp=some (.tup (JZ G cs))/\Rep G H d x/\t (tyD d)=some b/\Q (.bl b) H):=by
 intro pins s σ H xs us Q I r h;obtain⟨d,x,b,tp,rfl,h1,hd,e,q⟩:=h;obtain⟨u,w',rfl,ru,rw'⟩:=vals2 r;cases rw';obtain⟨HH,Z,z,ne⟩:=Rp I hK hd ru λk ns ds y=>by subst y;rw[hK];exact ht.2 k b e
 obtain⟨_,its,rv,⟨⟨c,dd,da,sl⟩,q1,q2,n,q3⟩⟩:=(show qL X.prog X.w H s.heap tp (.tup (JZ G cs)) from I.hok tp _ h1);cases q2;cases q3;have ei:=LI cs rv;subst ei;exact W.kia_tup Z I.kIn z q1 (by rw[hK];exact ht.1 _ _ e) ne λtk=>⟨.bl b,H,I.tok _,rfl,q⟩
def Rq(G:Bg):List Nat->TA
 |[]=>Dl
 |c::r=>yW (tC (.ref (G.ca c))) (Rq G r)
theorem IE:∀(cs:List Nat) (σ:St) (H:Hp) (Q:List V->Hp->Prop),Q (JZ G cs) H->Rq G cs σ H Q
 |[],_,_,_,h=>h
 |c::r,σ,H,Q,h=>IE r σ H (λxs H2=>Q (.ref (G.ca c)::xs) H2) h
theorem LJ{cs:List Nat}(h:PE X e (tCB (λxs H Q=>∃d x b tp,xs=[x,.ref tp]/\H tp=some (.tup (JZ G cs))/\Rep G H d x/\t (tyD d)=some b/\Q (.bl b) H) (yW (tF G f) (yW (Up (Rq G cs)) Dl))))(hl:cs.length<=1000:=by decide):PE X e (tF G (c1 (qC t) f)):=PE.weak h λσ H Q hh=>by
 obtain⟨F,ρ,H0,d,ρ',R,e,k⟩:=hh;obtain⟨x,e1,e2⟩:=zK e;unfold qC at e2;cases e3:t (tyD x)with
 |none=>rw[e3]at e2;cases e2
 |some b=>
  rw[e3]at e2;cases e2;refine⟨F,ρ,H0,x,ρ',R,e1,λv H1 H1' s R' r=>IE cs _ _ _ ⟨?_,λp hp=>?_⟩⟩
  ·unfold JZ;rw[af];exact sj hl
  ·exact⟨x,v,b,p,rfl,pK,Rep.mono (R'.sub.trans (pX hp _)) _ _ r,e3,k _ _ _ (s.trans (pX (R'.h0none hp) _)) (R'.newIm hp _) (sk b)⟩
end
abbrev one(j:Nat)(led pl:Bool):aW:=⟨7,#[j],#[],0,led,0,pl⟩
variable{ks:List Key}
section
variable{prog:ar}{w:aq}{A:av}{E:aa->ab->Prop}{s:ab}
abbrev TK(prog:ar)(w:aq):=IsTupleKey (pZ prog w)
theorem cls_val(n:Nat){v:aa}(h:je v=true):fO n v=pure false:=by
 cases v with
 |ref a=>simp[je]at h
 |_=>first|rfl|simp[fO]|(unfold fO;rfl)
theorem IF{Q:Bool->ab->Prop}(hk:TK prog w s.heap ks a)(h:Q false s):ag (model prog w) A (fO 8 (.ref a)) Q E s:=by
 have hT:=hk.typeIs;obtain⟨o,items,n,ho,_,hd,hi⟩:=hk;unfold fO;refine ae (hX hT ?_);show ag _ _ (pure true>>=_) _ _ s;refine ae (ai ?_);simp only[Bool.not_true,eO,if_false];refine ae (jf ho hd ?_);refine ae ?_;show ag _ _ (forIn items _ _) _ _ s;rw[<-kH];refine i4 _ (λrest r s'=>r.1=none/\s'=s/\∀v∈rest,je v=true) _ ?_ ?_ _ _ ⟨rfl,rfl,hi.byValue⟩
 ·rintro v rest r s' ⟨hr,rfl,hall⟩;rw[cls_val _ (hall v aP)];refine ae (ai ?_);simp only[eO,if_false];exact ai ⟨rfl,rfl,λu hu'=>hall u (aO _ hu')⟩
 ·rintro⟨r1,r2⟩ s' ⟨hr,rfl,_⟩;simp only at hr;subst hr;exact ai h
end
variable{ep:Nat}
section
variable{prog:ar}{w:aq}{A:av}{E:aa->ab->Prop}{s:ab}
theorem He{hp:Heap}{S:Addr}{es es':Array (Int×aa)}{t t':aW}(ho:hp.get? S=some o)(hd:o.data=.set es ep t):(hp.update S (fA es' t')).get? S=some { o with data:=.set es' (ep+1) t' }:=by have:=dr (fA es' t') ho (by rw[putSet_of es' t' hd];rfl);rw[putSet_of es' t' hd]at this;exact this
end
section
variable{prog:ar}{w:aq}{A:av}{R:cR->ab->Prop}{I:Addr}{fp wr:List Addr}{GG:Array dh->Array dh->Prop}{PP:Nat->aa->Prop}{SS:Nat->ab->Prop}
theorem TK.kept{h h':Heap}(t:TK prog w h ks a)(e:∀o,h.get? a=some o->h'.get? a=some o):TK prog w h' ks a:=by obtain⟨o,its,n,ho,m⟩:=t;exact⟨o,its,n,e o ho,m⟩
def UY(h:Heap)(S:Addr)(n:Nat):Prop:=∃o es ep t,h.get? S=some o/\o.ExactSet/\o.data=.set es ep t/\es.size<scanBound/\t.fits es.size=true/\es.size=n
end
theorem sub_tuple_set:isSubtype (.type "tuple") (.type "set")=pure false:=by rw[hG];kernel_rfl
theorem sub_tuple_frozenset:isSubtype (.type "tuple") (.type "frozenset")=pure false:=by rw[hG];kernel_rfl
variable{ax:Addr}{itO:Obj}
section
variable{prog:ar}{w:aq}{A:av}{E:aa->ab->Prop}{s:ab}{Q:aa->ab->Prop}
abbrev vd(led:Bool):Obj:={ cls:=.type "set", dict:=none,data:=.set #[] 0 (.fresh 0 0 led) }
abbrev inK(ks:List Key):Key->Bool:=λj=>(vC ks).any (λz=>decide (z=j))
structure UZ(prog:ar)(w:aq)(h:Heap)(a:Addr)(items:Array aa)(ks:List Key):Prop where
 len:ks.length=items.size
 key:∀i v (hi:i<ks.length),items[i]?=some v->(pZ prog w).is ks[i] v=true/\v.scannable=true
 bnd:items.size+1<scanBound
def OG(s:ab)(PS:Heap->Prop)(E:aa->ab->Prop):cR->ab->Prop:=
 wants (λr s2=>r=.none/\∃h2 k2,s2={ s with heap:=h2,toks:=k2 }/\PS h2/\∀b o,b<s.heap.objs.size->s.heap.get? b=some o->h2.get? b=some o) E
theorem F0{items:Array aa}{led:Bool}{SS:Nat->Heap->Prop}(K:UZ prog w s.heap ax items ks)(hlt:ax<s.heap.objs.size)
  (W:Walks prog w A.in1 (s.heap.objs.size+1) [s.heap.objs.size+1,ax] [s.heap.objs.size+1] items.size (λi v=>items[i]?=some v) SS) (st:SS 0 ((s.heap.push (vd led)).push itO)) {R:cR->ab->Prop}
  (hR:∀h2 k2,h2.SetOf (pZ prog w) s.heap.objs.size (inK ks) (vC ks).length->(∀b o,b<s.heap.objs.size->s.heap.get? b=some o->h2.get? b=some o)->R (.ok (.ret .none)) { s with heap:=h2,toks:=k2 }) (tk:Nat):
  bI (model prog w) A (.builtin "set.update.loop" ⟨[.ref s.heap.objs.size,.ref (s.heap.objs.size+1)],[]⟩) R { s with heap:=(s.heap.push (vd led)).push itO,toks:=tk }:=by
 have notin:s.heap.objs.size∉[s.heap.objs.size+1,ax]:=by
  intro z;rcases aH.mp z with z|z
  ·exact ao z (aI (cD _))
  ·exact ao (aX.mp z) (eh hlt)
 have e0:((s.heap.push (vd led)).push itO).get? s.heap.objs.size=some (vd led):=aA _ (aU _ rfl);refine LG W.toS s.heap.objs.size notin ks K.len (λi v hi hv=>K.key i v hi hv) K.bnd (items.size - 0) 0 _ (by omega) (bR _) st ?_ λs2 mv S2=>?_
 ·exact⟨_,#[],0,_,e0,⟨rfl,rfl,rfl⟩,rfl,λe he=>by simp at he,λk=>by simp[vC],by unfold scanBound;decide,by rfl,rfl⟩
 ·obtain⟨h2,g2,d2,k2,o2⟩:=s2;have eg:g2=s.gens:=mv.gens;have ed:d2=s.drawn:=mv.drawn;have eo:o2=s.os:=mv.os;subst eg ed eo;refine hR h2 k2 S2 λb o hb e=>mv.heap b o (λz=>?_) (aA _ (aA _ e));rcases aH.mp z with z|z
  ·exact ao z (aI hb)
  ·exact ao (aX.mp z) (aI (cY hb))
theorem Hf(a:aa){Q₁:aa->ab->Prop}(h:Q₁ (.ref s.heap.objs.size) { s with heap:=s.heap.push (vd (!w.params.followText "set-order")) }):
  bI (model prog w) A (.call (.builtin "set.__new__") ⟨[.type "set", a],[]⟩) (wants Q₁ E) s:=by
 refine lY ?_;show ag _ A.in1 (do checkBuiltinCall "set.__new__" ⟨[.type "set", a],[]⟩;again (.builtin "set.__new__" ⟨[.type "set", a],[]⟩)) _ _ s;refine ae (wpAny_of_eq (F.newCall_set_1 a) (ai ⟨d9 lZ _,cF F.entry_set_new ?_⟩));rw[cW lZ _];unfold dj.«set.__new__» nD;have hsub:=sub_set_self;obtain⟨hp,g,d,tk,os⟩:=s;dsimp only
 wp_walk
 refine i6 (ai ?_);dsimp only;simp only[newObj];refine ae (wpAny_alloc (ai ?_));exact ai h
theorem zV{T:String}{PS:Heap->Prop}(ho:s.heap.get? ax=some o)(hc:o.cls=.type T)
  (u1:isSubtype (.type T) (.type "set")=pure false) (u2:isSubtype (.type T) (.type "frozenset")=pure false) (u3:(Value.type T==Value.type "dict")=false)
  (itr:∀(A:av) (Q:aa->ab->Prop) (E:aa->ab->Prop) (s1:ab),s1.heap.get? ax=some o->Q (.ref s1.heap.objs.size) { s1 with heap:=s1.heap.push itO }->ag (model prog w) A (pyIter (.ref ax)) Q E s1)
  (fil:∀tk (R:cR->ab->Prop),(∀h2 k2,PS h2->(∀b o,b<s.heap.objs.size->s.heap.get? b=some o->h2.get? b=some o)->R (.ok (.ret .none)) { s with heap:=h2,toks:=k2 })->
   bI (model prog w) A.in1.in1 (.builtin "set.update.loop" ⟨[.ref s.heap.objs.size,.ref (s.heap.objs.size+1)],[]⟩) R { s with heap:=(s.heap.push (vd (!w.params.followText "set-order"))).push itO,toks:=tk })
  (h:∀h2 k2,PS h2->(∀b o,b<s.heap.objs.size->s.heap.get? b=some o->h2.get? b=some o)->Q (.ref s.heap.objs.size) { s with heap:=h2,toks:=k2 }):
  ag (model prog w) A (call (.type "set") [.ref ax]) Q E s:=by
 have hlt:ax<s.heap.objs.size:=aD ho;obtain⟨c,tl,hmro⟩:=dJ.mro;have made:=dJ.made;have subs:=dJ.sub;refine ig (lY ?_);show ag _ _ (callAny (.type "set") _) _ _ _;refine ai ⟨Code.quiet_builtin _ (by decide +kernel),cF F.entry_type_call ?_⟩;rw[Around.under_plain (weight_type_call_type "set" [.ref ax] []) rfl];have n1:=dJ.notType;have n2:=dJ.canCreate;have n3:=F.typeCall_set_1 (.ref ax)
 repeat (any_goals (first|assumption|wp_step))
 let led:Bool:=!w.params.followText "set-order";refine fq (Hf (.ref ax) (E:=E) (Q₁:=λv s1=>v=.ref s.heap.objs.size/\s1={ s with heap:=s.heap.push (vd led) }) ⟨rfl,rfl⟩) λr s1 hr=>?_;cases r with
 |error e=>exact hr
 |ok fl=>
  cases fl with
  |ret v=>
   obtain⟨rfl,rfl⟩:=hr;have e0:(s.heap.push (vd led)).get? s.heap.objs.size=some (vd led):=aU _ rfl;have ty0:jl { s with heap:=s.heap.push (vd led) } (.ref s.heap.objs.size) "set" := ⟨_,e0,rfl⟩;have l1:=dJ.init.lookup;have l2:=dJ.init.bind (.ref s.heap.objs.size)
   repeat (any_goals (first|assumption|wp_step))
   refine fq (kh (R:=OG s PS E) dJ.init.plain F.entry_set_init (check_set_init_1 ty0 ?_)) λr2 s2 hr2=>?_
   ·obtain⟨oc,od,oda,osl⟩:=o;cases hc;have e1:(s.heap.push (vd led)).get? ax=some { cls:=.type T,dict:=od,data:=oda,slots:=osl }:=aA _ ho;unfold dj.«set.__init__» noKeywords nv;generalize gP:pyIter=PP
    wp_walk
    subst gP;refine itr _ _ _ _ e1 ?_;refine ae (mh ?_);have ez:(s.heap.push (vd led)).objs.size=s.heap.objs.size+1:=bZ _ _;show bI _ _ (.builtin "set.update.loop" ⟨[.ref s.heap.objs.size,.ref (s.heap.push (vd led)).objs.size],[]⟩) _ _;rw[ez];refine fil _ _ λh2 k2 S2 kk=>?_;show ag _ _ _ _ _ _;refine ai ?_;show ag _ _ (ret Value.none) _ _ _;exact ai ⟨rfl,h2,k2,rfl,S2,kk⟩
   ·cases r2 with
    |error e=>exact hr2
    |ok fl2=>
     cases fl2 with
     |ret r=>
      obtain⟨rfl,h2,k2,rfl,S2,kk⟩:=hr2
      repeat (any_goals (first|assumption|wp_step))
      exact h _ _ S2 kk
     |_=>exact hr2.elim
  |_=>exact hr.elim
end
variable{S:ak->Hp->Addr->Nat->Prop}
section
variable{X:Cx}{G:Bg}{H:Hp}{pins:List (Addr×Obj)}{σ:St}{s:ab}
theorem LK{P:ar}{w:aq}{k:Key}{v:aa}(h:(pZ P w).is k v=true):v.scannable=true:=by rcases qE h with ⟨i,t,_,rfl⟩|⟨x,t,_,rfl⟩<;>rfl
theorem LL(r:Vals (ks.map kV) its)(hb:ks.length+1<scanBound):UZ X.prog X.w s.heap a its.toArray ks:=by
 have hl:ks.length=its.length:=by have:=r.length;rw[af]at this;exact this
 refine⟨by rw[aM];exact hl,λi v hi hv=>?_,by rw[aM];omega⟩;have e:(ks.map kV)[i]?=some (kV ks[i]):=by rw[bb,aY hi];rfl
 obtain⟨u,hu,ru⟩:=r.get e;have eu:v=u:=by rw[gL]at hv;rw[hv]at hu;exact bN hu
 subst eu;have:=BX (P:=X.prog) (w:=X.w) ru;exact⟨this,LK this⟩
theorem U0(I:Inv X pins σ H s)(h:SqT X.K H a (ks.map kV)):TK X.prog X.w s.heap ks a:=by
 obtain⟨its,r,p,_⟩:=I.tuple h;obtain⟨o,ho,hc,n,hd⟩:=p;refine⟨o,_,n,ho,hc,hd,?_⟩;have gen:∀(ks:List Key) (its:List aa),Vals (ks.map kV) its->PySem.ItemsAre (pZ X.prog X.w) ks its:=λks=>by
  induction ks with
  |nil=>intro its r;cases r;exact .nil
  |cons k ks ih=>intro its r;cases r with|cons h1 h2=>exact .cons (BX h1) (ih _ h2)
 exact gen ks its r
def Rr(K:ak)(H:Hp)(a:Addr)(n:Nat):Prop:=∃ks,(SqL K H a (ks.map kV)\/SqT K H a (ks.map kV))/\ks.length+1<scanBound/\n=(vC ks).length
def Rt(X:Cx)(S:ak->Hp->Addr->Nat->Prop):Prop:=∀{pins:List (Addr×Obj)} {σ:St} {H:Hp} {s:ab} {A:av} {E:aa->ab->Prop} {Q:aa->ab->Prop} {a:Addr} {n:Nat},Inv X pins σ H s->A.handled=none->A.units+8<cLine->S X.K H a n->
 (∀h2 k2,UY h2 s.heap.objs.size n->(∀b o,b<s.heap.objs.size->s.heap.get? b=some o->h2.get? b=some o)->Q (.ref s.heap.objs.size) { s with heap:=h2,toks:=k2 })->ag (model X.prog X.w) A (call (.type "set") [.ref a]) Q E s
theorem U1:Rt X (Rr):=by
 intro pins σ H s A E Q a n I hh hu hq h;have h3:A.in1.in1.in1.handled=none:=by simp[hh]
 have gt:∀{h2:Heap} {ks:List Key},h2.SetOf (pZ X.prog X.w) s.heap.objs.size (inK ks) (vC ks).length->UY h2 s.heap.objs.size (vC ks).length:=λS=>by obtain⟨o,es,ep,t,ho,hex,hd,_,_,hz,hf,hn⟩:=S;exact⟨o,es,ep,t,ho,hex,hd,hz,hf,hn⟩
 have it:∀{o:Obj} {led:Bool},o.isFreed=false->((s.heap.push (vd led)).push o).get? (s.heap.objs.size+1)=some o:=λ{o led} z=>by rw[show s.heap.objs.size+1=(s.heap.push (vd led)).objs.size from(bZ _ _).symm];exact aU _ z
 obtain⟨ks,hq|hq,hb,rfl⟩:=hq
 ·obtain⟨its,r,p,_⟩:=I.list hq;obtain⟨o,ho,hc,n,hd⟩:=p.isList;have hne:a≠s.heap.objs.size+1:=aI (cY (aD ho));refine zV ho hc jg iF (by decide) (itO:={ cls:=.type "list_iterator", data:=.fields #[.ref a,.int 0 0] })
   (λA Q E s1 e k=>dW ⟨o,e,hc,n,hd⟩ k) (λtk R hR=>F0 (LL r hb) (aD ho) (gb h3 _ a hne its.toArray) ⟨⟨_,it rfl,rfl,rfl⟩,⟨o,aA _ (aA _ ho),hc,n,hd⟩⟩ (λh2 k2 S=>hR h2 k2 (gt S)) tk) h
 ·obtain⟨its,r,p,_⟩:=I.tuple hq;obtain⟨o,ho,hc,n,hd⟩:=p;have hne:a≠s.heap.objs.size+1:=aI (cY (aD ho));refine zV ho hc sub_tuple_set sub_tuple_frozenset (by decide) (itO:={ cls:=.type "tuple_iterator", data:=.fields #[.ref a,.int 0 0] })
   (λA Q E s1 e k=>kD ⟨o,e,hc,n,hd⟩ k) (λtk R hR=>F0 (LL r hb) (aD ho) (Walks.tuple h3 _ a hne its.toArray) ⟨⟨_,it rfl,rfl,rfl⟩,⟨o,aA _ (aA _ ho),hc,n,hd⟩⟩ (λh2 k2 S=>hR h2 k2 (gt S)) tk) h
def IG(S:ak->Hp->Addr->Nat->Prop)(K:ak)(te:TE):TE:=λσ H Q=>te σ H λx H1=>∃a n,x=.ref a/\S K H1 a n/\Q (.int n) H1
theorem J0{p1 p2 p3 p4:Pos}(hV:Rt X S)(hu:X.A.units+64<cLine)(hc:X.calm=true)(g1:Gl X "len")(m1:X.mg "len" = none)(g2:Gl X "set")(m2:X.mg "set" = none)(he:PE X e te)
  (z1:aw [Expr.Call (.Name "set" p2) [e] [] p3] X.env=[(false,eval (.Call (.Name "set" p2) [e] [] p3) X.env)]:=by rfl) (z2:aw [e] X.env=[(false,eval e X.env)]:=by rfl):PE X (.Call (.Name "len" p1) [.Call (.Name "set" p2) [e] [] p3] [] p4) (IG S X.K te):=by
 intro pins s σ H Q I h;refine cA (xU I g1 m1 mi ?_ (by decide) (by decide));refine callWith_builtin1 ?_ z1 rfl;rw[z1];show ag _ _ (spliced [(false,eval (.Call (.Name "set" p2) [e] [] p3) X.env)]) _ _ s;refine dU ?_;refine cA (xU I g2 m2 m5 ?_ (by decide) (by decide));refine callWith_type1 (thn (rj he uv z2 p3 pins s σ H (λvs H1=>match vs with
  |[x]=>∃a n,x=.ref a/\S X.K H1 a n/\Q (.int n) H1
  |_=>False) I h) λus s1 ⟨vs,H1,I1,r1,q1⟩=>?_) z2 rfl
 match vs,r1,q1 with
 |[x],r1,q1=>
 obtain⟨a,n,e1,hq,q⟩:=q1;subst e1;obtain⟨u,rfl,ru⟩:=vals1 r1;cases ru;refine hV I1 (I1.ok.hd hc) (by omega) hq λh2 k2 S2 kk=>?_;refine eQ ?_;obtain⟨o,es,ep,t,ho,hex,hd,hz,hf,hn⟩:=S2;have I2:Inv X pins σ H1 { s1 with heap:=h2,toks:=k2 }:=I1.kept λb o e=>kk b o (aD e) e;refine call_len_set ho hex hd hf (by unfold scanBound at hz;omega) ⟨.int n,H1,I2.tok _,⟨_,by rw[hn]⟩,q⟩
def A2:List D->Option (List Key)
 |[]=>some []
 |d::ds=>match yV d,A2 ds with
  |some k,some ks=>some (k::ks)
  |_,_=>none
theorem D1:∀{ds:List D} {xs:List V} {ks:List Key},pE G H ds xs->A2 ds=some ks->xs=ks.map kV
 |[],xs,ks,r,e=>by cases e;unfold pE at r;exact r
 |d::ds,xs,ks,r,e=>by
  unfold A2 at e;cases e1:yV d with
  |none=>rw[e1]at e;cases e
  |some k=>
   cases e2:A2 ds with
   |none=>rw[e1,e2]at e;cases e
   |some ks'=>rw[e1,e2]at e;cases e;unfold pE at r;obtain⟨v,r',rfl,h1,h2⟩:=r;rw[yL h1 e1,D1 h2 e2];rfl
def sf(ds:List D):Option D:=match A2 ds with
 |some ks=>if ks.length<=1000 then some (.int (vC ks).length)else none
 |none=>none
def zW(g:List D->Option D):D->Option D
 |.lst ds=>match sf ds with
  |some r=>some r
  |none=>g ds
 |.tup ds=>sf ds
 |.fzl ds=>sf ds
 |_=>none
theorem OH{g:List D->Option D}{ds:List D}{r:D}(h:sf ds=some r):zW g (.lst ds)=some r:=by show (match sf ds with|some r=>some r|none=>g ds)=some r;rw[h]
theorem Hg{g:List D->Option D}(hK:X.K=G.K)(hO:∀{H a n},Rr X.K H a n->S X.K H a n)
  (hg:∀{ds d H1 H1' a xs},g ds=some d->SqL X.K H1' a xs->pE G H1 ds xs->pL H1 H1'->∃n:Nat,S X.K H1' a n/\d=.int n)
  (h:PE X e (IG S X.K (tF G f))):PE X e (tF G (c1 (zW g) f)):=PE.weak h λσ H Q hh=>by
 obtain⟨F,ρ,H0,d,ρ',R,e,k⟩:=hh;obtain⟨x,e1,e2⟩:=zK e;have key:∀{ds:List D} {xs:List V} {a:Addr} {H1 H1':Hp},sf ds=some d->pE G H1 ds xs->pL H0 H1->pV G F σ ρ' H1 H1'->(SqL X.K H1' a xs\/SqT X.K H1' a xs)->
   ∃a' n,V.ref a=.ref a'/\S X.K H1' a' n/\Q (.int n) H1':=λ{ds xs a H1 H1'} ed rs s R' hq=>by
  unfold sf at ed;cases ek:A2 ds with
  |none=>rw[ek]at ed;cases ed
  |some ks=>
   rw[ek]at ed;simp only at ed;split at ed
   ·rename_i hl;cases ed;rw[D1 rs ek]at hq;exact⟨a,_,rfl,hO ⟨ks,hq,by unfold scanBound;omega,rfl⟩,k _ _ _ s R' (rS _)⟩
   ·cases ed
 refine⟨F,ρ,H0,x,ρ',R,e1,λv H1 H1' s R' r=>?_⟩;cases x with
 |lst ds=>
  unfold Rep at r;obtain⟨a,xs,rfl,h1,h2⟩:=r;have hq:SqL X.K H1' a xs:=SqL.of (R'.sub _ _ h1);replace e2:(match sf ds with|some r=>some r|none=>g ds)=some d:=e2;cases e3:sf ds with
  |some r=>rw[e3]at e2;cases e2;exact key e3 h2 s R' (.inl hq)
  |none=>rw[e3]at e2;obtain⟨n,h3,rfl⟩:=hg e2 hq h2 R'.sub;exact⟨a,n,rfl,h3,k _ _ _ s R' (rS _)⟩
 |tup ds=>unfold Rep at r;obtain⟨a,xs,rfl,h1,h2⟩:=r;rw[<-hK]at h1;exact key e2 h2 s R' (.inr (SqT.mono R'.sub h1))
 |fzl ds=>unfold Rep at r;obtain⟨a,xs,rfl,h1,h2⟩:=r;rw[<-hK]at h1;exact key e2 h2 s R' (.inl (R'.sub.seq h1))
 |_=>cases e2
end
theorem IH{P:ar}{w:aq}{k:Key}{v:aa}(h:(pZ P w).is k v=true):RelV (kV k) v:=by
 rcases qE h with ⟨i,t,rfl,rfl⟩|⟨x,t,rfl,rfl⟩
 ·exact⟨t,rfl⟩
 ·exact⟨t,rfl⟩
def Itd(a:Addr)(o:Obj)(kvs:List (Key×V)):It:=
 ⟨λi H=>i<kvs.length/\H a=some (.frz o (.dK kvs)),λi H x H'=>H'=H/\∃k z,kvs[i]?=some (k,z)/\x=kV k,λi H=>kvs.length<=i/\H a=some (.frz o (.dK kvs))⟩
section
variable{X:Cx}{pins:List (Addr×Obj)}{σ:St}{H:Hp}{s:ab}
theorem A3{es:Array DictEntry}(I:Inv X pins σ H s)(e:H a=some (.frz o (.dK kvs)))(hd:o.data=.dict es ep):
  (a==cw)=false/\s.heap.get? a=some o/\∃vs,KV kvs vs/\s.heap.DictAt (pZ X.prog X.w) a vs ep:=by
 obtain⟨q0,_,y,vs,r,ob,es',ep',q1,q2,q3,q4⟩:=(show qL X.prog X.w H s.heap a (.frz o (.dK kvs)) from I.hok a _ e);rw[q0]at q1;cases q1;rw[hd]at q3;cases q3;exact⟨y,q0,vs,r,o,es,q0,q2,hd,q4⟩
theorem Ru{vs:List (Key×aa)}(r:KV kvs vs){k:Key}{x:aa}(e:vs[i]?=some (k,x)):∃z,kvs[i]?=some (k,z):=by
 induction r generalizing i with
 |nil=>cases e
 |@cons p q l l' h _ ih=>
  cases i with
  |zero=>obtain⟨pk,pv⟩:=p;cases e;exact⟨pv,by rw[show pk=k from h.1];rfl⟩
  |succ i=>exact ih e
end
theorem J1{P:ar}{w:aq}{K:ak}(a it:Addr)(o:Obj)(kvs:List (Key×V)):Turn P w K tg (Itd a o kvs) [it] it (λi h=>∃es ep,o.data=.dict es ep/\h.IsKeyIter it a i kvs.length ep) where
 mem:=by simp
 obj:=λi h st b hb=>by
  have e:b=it:=by simpa using hb
  subst e;obtain⟨es,ep,hd,ob,e,c,d⟩:=st;exact⟨ob,e,λv z=>by rw[d]at z;cases z⟩
 keep:=λi h h' st k=>by obtain⟨es,ep,hd,x⟩:=st;exact⟨es,ep,hd,x.at λo e=>k it (by simp) o e⟩
 item:=by
  intro X hP hw hK hc i pins s σ H E I hf st hg;subst hP hw hK;obtain⟨hi,he⟩:=hg;obtain⟨es,ep,hd,ki⟩:=st;obtain⟨f0,f1,f2,f3,f4,f5⟩:=hf it (by simp);obtain⟨_,_,vs,r,da⟩:=A3 I he hd;have hl:kvs.length=vs.length:=r.length;have hne:a≠it:=λz=>by subst z;rw[he]at f0;cases f0
  have W:=Walks.dictKeys (knd:=pZ X.prog X.w) (A:=X.A) (I.ok.hd hc) it a hne vs ep;refine W.item i s _ _ (by omega) ⟨by rw[<-hl];exact ki,da⟩ λv h' tk hv st' kk=>?_;obtain⟨k,x,hx,hk⟩:=hv;obtain⟨z,hz⟩:=Ru r hx;have I1:Inv X pins σ H { s with heap:=h',toks:=tk }:=I.turned (λb o hb e=>kk b o (by simpa using hb) e) f0 f1 f3 f4 f5;obtain⟨ki',_⟩:=st';rw[<-hl]at ki';obtain⟨ob,e,c,d⟩:=id ki';exact⟨v,rfl,HR (s:={ s with heap:=h',toks:=tk }) e c d (by decide) ⟨kV k,H,I1,IH hk,⟨rfl,k,z,hz,rfl⟩,⟨es,ep,hd,ki'⟩,λb hb=>(hf b hb).1⟩⟩
 done:=by intro X hP hw hK hc i pins s σ H E I hf st hg;subst hP hw hK;obtain⟨hi,he⟩:=hg;obtain⟨es,ep,hd,ki⟩:=st;obtain⟨f0,f1,f2,f3,f4,f5⟩:=hf it (by simp);obtain⟨_,_,vs,r,da⟩:=A3 I he hd;have hl:kvs.length=vs.length:=r.length;exact wpAny_pyNext_dict_end (I.ok.hd hc) (by rw[<-hl];exact ki) da (eK (by rw[<-hl];exact hi)) λh' eb=>⟨rfl,I.turned (t':=s.toks) (λb o hb e=>eb b o hb e) f0 f1 f3 f4 f5⟩
 self:=λ_ _ _ _ _ st h=>by obtain⟨es,ep,hd,ki⟩:=st;exact wpAny_pyIter_keyiter ki h
section
variable{X:Cx}{G:Bg}{tg:Expr}
def U2(tl:TE):TI:=λσ H R=>tl σ H λx H1=>∃a o kvs,x=.ref a/\H1 a=some (.frz o (.dK kvs))/\R (Itd a o kvs) H1
theorem OI{l:Expr}{tl:TE}(hl:PE X l tl):PI X tg l (U2 tl):=by
 intro pins s σ H R I h;refine thn (hl pins s σ H _ I h) λv s1 zz=>?_;obtain⟨x,H1,I1,r1,q1⟩:=zz;obtain⟨a,o,kvs,e,he,q⟩:=q1;subst e;cases r1;obtain⟨q0,_,y,vs,r,ob,es,ep,e1,e2,e3,e4⟩:=(show qL X.prog X.w H1 s1.heap a (.frz o (.dK kvs)) from I1.hok a _ he);rw[q0]at e1;cases e1;have hl:kvs.length=vs.length:=r.length;refine wpAny_pyIter_dict (knd:=pZ X.prog X.w) (kvs:=vs) (ep:=ep) y ⟨o,es,q0,e2,e3,e4⟩ ?_;refine⟨s1.heap.objs.size,[s1.heap.objs.size],_,_,H1,rfl,I1.kept (t':=s1.toks) λb o e=>aA _ e,J1 a _ o kvs,⟨es,ep,e3,⟨_,aU _ rfl,rfl,by rw[hl];rfl⟩⟩,λb hb=>?_,q⟩;have e:b=s1.heap.objs.size:=by simpa using hb
 subst e;exact I1.fpOk (aC _) (I1.hok.fresh (aC _))
def Rv:Key->D
 |.inl i=>.int i
 |.inr x=>.str x
theorem OJ(k:Key){H:Hp}:Rep G H (Rv k) (kV k):=by
 cases k with
 |inl i=>exact rS i
 |inr x=>exact uJ x
def iD(f:FE):FA:=λρ=>match f ρ with
 |some (.dic ks ds,ρ1)=>if ks.length=ds.length then some (ks.map Rv,ρ1)else none
 |_=>none
theorem LM{tg:Expr}(h:PI X tg e (U2 (tF G f))):PI X tg e (tFI G (iD f)):=PI.weak h λσ H R hh=>by
 obtain⟨F,ρ,H0,ds,ρ',R,e,k⟩:=hh;unfold iD at e;split at e
 ·rename_i ks ds' ρ1 e1;split at e
  ·rename_i hlen;cases e;refine⟨F,ρ,H0,_,_,R,e1,λv H1 H1' s R' r=>?_⟩;unfold Rep at r;obtain⟨a,o,xs,rfl,r1,r2,r3⟩:=r;have hz:(ks.zip xs).length=ks.length:=by rw[fU,<- r2,fY]
   refine⟨a,o,_,rfl,R'.sub _ _ r1,k _ _ _ s R' λi H2 H2' t t'=>⟨λd ed=>?_,λhl=>?_⟩⟩
   ·rw[bb]at ed;cases ek:ks[i]? with
    |none=>rw[ek]at ed;cases ed
    |some j=>
     rw[ek]at ed;cases ed;have hi:i<ks.length:=(bE.mp ek).1;refine⟨⟨by rw[hz];exact hi,t' _ _ (t _ _ r1)⟩,λz H3 y=>?_⟩;obtain⟨e3,k',z',hk',rfl⟩:=y;subst e3;have:k'=j:=by rw[List.getElem?_zip_eq_some]at hk';have:=hk'.1;rw[ek]at this;exact(bN this).symm
     subst this;exact⟨H2,pL.refl _,t',pL.refl _,λb o e=>.inl e,OJ _⟩
   ·refine⟨by rw[hz,hl,af];exact aC _,t' _ _ (t _ _ r1)⟩
  ·cases e
 ·cases e
end
mutual
def noC(N c:Nat):D->Bool
 |.non=>true
 |.bl _=>true
 |.int _=>true
 |.str _=>true
 |.tup ds=>uA N c ds
 |.lst ds=>uA N c ds
 |.fzl ds=>uA N c ds
 |.obj k _ ds=>decide (k<N)&&decide (k≠c)&&uA N c ds
 |.dic _ ds=>uA N c ds
def uA(N c:Nat):List D->Bool
 |[]=>true
 |d::ds=>noC N c d&&uA N c ds
end
def without(H:Hp)(a:Addr):Hp:=λb=>if b=a then none else H b
theorem Cm{H:Hp}{b:Addr}(h:b≠a):without H a b=H b:=by unfold without;rw[aj h]
theorem zX{H:Hp}{b:Addr}{o:HO}(h:without H a b=some o):b≠a/\H b=some o:=by
 unfold without at h;by_cases hb:b=a
 ·rw[ah hb]at h;cases h
 ·rw[aj hb]at h;exact⟨hb,h⟩
theorem sS{H:Hp}{b:Addr}{u v:HO}(ha:H a=some u)(hb:H b=some v)(d:u≠v):without H a b=some v:=by rw[Cm (λz=>by subst z;rw[ha]at hb;exact d (bN hb))];exact hb
variable{p:Addr}{xs:List V}
section
variable{G:Bg}{H:Hp}{a dx:Addr}{fs:List (Str×V)}{N c:Nat}
theorem F3(ha:H a=some (.ins (G.ca c) dx fs))(h:SqT G.K H p xs):SqT G.K (without H a) p xs:=by
 rcases h with (h|⟨o,h⟩)|h
 ·exact .inl (.inl (sS ha h (λz=>nomatch z)))
 ·exact .inl (.inr ⟨o,sS ha h (λz=>nomatch z)⟩)
 ·exact .inr h
theorem F4(ha:H a=some (.ins (G.ca c) dx fs))(h:SqL G.K H p xs):SqL G.K (without H a) p xs:=by
 rcases h with (h|⟨o,h⟩)|h
 ·exact .inl (.inl (sS ha h (λz=>nomatch z)))
 ·exact .inl (.inr ⟨o,sS ha h (λz=>nomatch z)⟩)
 ·exact .inr h
mutual
theorem A4(inj:∀j k,j<N->k<N->G.ca j=G.ca k->j=k)(hc:c<N)(ha:H a=some (.ins (G.ca c) dx fs)):∀(d:D) (v:V),noC N c d=true->Rep G H d v->Rep G (without H a) d v
 |.non,v,_,h=>by unfold Rep at h ⊢;exact h
 |.bl _,v,_,h=>by unfold Rep at h ⊢;exact h
 |.int _,v,_,h=>by unfold Rep at h ⊢;exact h
 |.str _,v,_,h=>by unfold Rep at h ⊢;exact h
 |.tup ds,v,n,h=>by unfold noC at n;unfold Rep at h ⊢;obtain⟨p,xs,e,h1,h2⟩:=h;exact⟨p,xs,e,F3 ha h1,sy inj hc ha ds xs n h2⟩
 |.lst ds,v,n,h=>by unfold noC at n;unfold Rep at h ⊢;obtain⟨p,xs,e,h1,h2⟩:=h;exact⟨p,xs,e,sS ha h1 (λz=>nomatch z),sy inj hc ha ds xs n h2⟩
 |.fzl ds,v,n,h=>by unfold noC at n;unfold Rep at h ⊢;obtain⟨p,xs,e,h1,h2⟩:=h;exact⟨p,xs,e,F4 ha h1,sy inj hc ha ds xs n h2⟩
 |.obj k ns ds,v,n,h=>by unfold noC at n;simp only[aF,bw]at n;unfold Rep at h ⊢;obtain⟨p,dx',xs,e,h1,h2,h3⟩:=h;refine⟨p,dx',xs,e,sS ha h1 (λz=>?_),h2,sy inj hc ha ds xs n.2 h3⟩;injection z with z1;exact n.1.2 (inj k c n.1.1 hc z1.symm)
 |.dic ks ds,v,n,h=>by unfold noC at n;unfold Rep at h ⊢;obtain⟨p,o,xs,e,h1,h2,h3⟩:=h;exact⟨p,o,xs,e,sS ha h1 (λz=>nomatch z),h2,sy inj hc ha ds xs n h3⟩
theorem sy(inj:∀j k,j<N->k<N->G.ca j=G.ca k->j=k)(hc:c<N)(ha:H a=some (.ins (G.ca c) dx fs)):∀(ds:List D) (xs:List V),uA N c ds=true->pE G H ds xs->pE G (without H a) ds xs
 |[],xs,_,h=>by unfold pE at h ⊢;exact h
 |d::ds,xs,n,h=>by unfold uA at n;simp only[aF]at n;unfold pE at h ⊢;obtain⟨v,r,e,h1,h2⟩:=h;exact⟨v,r,e,A4 inj hc ha d v n.1 h1,sy inj hc ha ds r n.2 h2⟩
end
end
def vY:Sl->Sl
 |.im d=>.im d
 |_=>.un
def y6(N:Nat)(f:FE):FE:=λρ=>match ρ with
 |.ob c ns ds::r=>match f (.im (.obj c ns ds)::r.map vY)with
  |some (d,_)=>if (decide (c<N)&&noC N c d)=true then some (d,ρ)else none
  |none=>none
 |_=>none
section
variable{X:Cx}{G:Bg}
theorem Hh{s:Sl}:(vY s).own=false:=by cases s<;>rfl
theorem OK{N:Nat}(inj:∀j k,j<N->k<N->G.ca j=G.ca k->j=k)(h:PE X e (tF G f)):PE X e (tF G (y6 N f)):=PE.weak h λσ H Q hh=>by
 obtain⟨F,ρ,H0,d,ρ',R,e,k⟩:=hh;unfold y6 at e;split at e
 ·rename_i c ns ds r;rcases qc (f:=f) (ρ:=.im (.obj c ns ds)::r.map vY)with e1|⟨x,ρ1,e1⟩<;>simp only[e1]at e
  ·cases e
  split at e
  ·rename_i hn;cases e;simp only[aF,bw]at hn;obtain⟨a,dx,xs,h1,h2,h3,h4,h5,h6⟩:=R.sl 0 _ rfl;have RL:pV G ⟨upd H0 a (.ins (G.ca c) dx (ns.zip xs)),H,[]⟩ σ (.im (.obj c ns ds)::r.map vY) (upd H0 a (.ins (G.ca c) dx (ns.zip xs))) H:={
    sub:=λb o q=>by
     by_cases hb:b=a
     ·subst hb;rw[pK]at q;cases q;exact h2
     ·rw[pM hb]at q;exact R.sub _ _ q
    g0:=pL.refl _
    keep:=λb o q _=>q
    fr:=λb o q=>.inl q
    am:=λb q=>by cases q
    len:=by have:=R.len;simpa using this
    sl:=λi s q=>by
     cases i with
     |zero=>cases q;exact⟨.ref a,h1,by unfold Rep;exact⟨a,dx,xs,rfl,pK,h5,pE.mono (pX h3 _) _ _ h6⟩⟩
     |succ i=>
      have q':(r.map vY)[i]?=some s:=q;rw[bb]at q';cases q1:r[i]? with
      |none=>rw[q1]at q';cases q'
      |some t=>
       rw[q1]at q';cases q';have ok:=R.sl (i+1) t q1;cases t with
       |im d=>obtain⟨v,g1,g2⟩:=ok;exact⟨v,g1,Rep.mono (pX h3 _) _ _ g2⟩
       |_=>trivial
    ap:=λi j s t b _ qi _ so=>by
     cases i with
     |zero=>cases qi;cases so
     |succ i=>
      have q':(r.map vY)[i]?=some s:=qi;rw[bb]at q';cases q1:r[i]? with
      |none=>rw[q1]at q';cases q'
      |some t=>rw[q1]at q';cases q';rw[Hh]at so;cases so }
   refine⟨_,_,_,d,ρ1,RL,e1,λv H1 H1' s R' rd=>?_⟩;have ha:H1 a=some (.ins (G.ca c) dx (ns.zip xs)):=s _ _ pK;have s0:pL H0 (without H1 a):=λb o q=>by
    have hb:b≠a:=λz=>by subst z;rw[h3]at q;cases q
    rw[Cm hb];exact s b o (by rw[pM hb];exact q)
   refine k v (without H1 a) H1' s0 ?_ (A4 inj hn.1 ha d v hn.2 rd);refine R.grow (λb o q=>R'.keep b o q (by simp)) s0 (λb o q=>R'.sub _ _ (zX q).2) λb o q=>?_;obtain⟨hb,q⟩:=zX q;rcases R'.fr b o q with z|z
   ·have z':upd H0 a (.ins (G.ca c) dx (ns.zip xs)) b=some o:=z;rw[pM hb]at z';exact .inl z'
   ·exact .inr z
  ·cases e
 ·cases e
end
section
variable{X:Cx}{pins:List (Addr×Obj)}{σ:St}{H:Hp}{s:ab}{a:Addr}{A:av}{E:aa->ab->Prop}
theorem Rw{k:Key}{z:V}{r:aa}{Q:aa->ab->Prop}(I:Inv X pins σ H s)(e:H a=some (.dK kvs))(ry:RelV (kV k) u)(rz:RelV z r)(hl:kvs.length<ay)
  (h1:∀v w s',tY kvs k=some v->Inv X pins σ H s'->RelV v w->Q w s') (h2:∀s',tY kvs k=none->Inv X pins σ (upd H a (.dK (putK kvs k z))) s'->Q r s'):
  ag (model X.prog X.w) A (call (.builtin "dict.setdefault") [.ref a,u,r]) Q E s:=by
 obtain⟨y,hd,vs,rel,dd⟩:=Pq I.hok e;have hz:vs.length<=ay:=by rw[<-rel.length];exact y
 have hp:(putK kvs k z).length<=ay:=by have:=xW kvs k z;omega
 have rv:=rel.val k;refine hZ j2 dd.typeIs F.entry_dict_setdefault (F.args_dict_setdefault_3 _ _ _) (kt_meets_setdefault (pZ X.prog X.w) a (BX ry) hd r) ⟨vs,dd,hz,λw hw=>?_,λhn h' dd' hs=>?_⟩
 ·rw[hw]at rv;cases ev:tY kvs k with
  |none=>rw[ev]at rv;exact rv.elim
  |some v=>rw[ev]at rv;exact h1 v w _ ev (I.tok _) rv
 ·rw[hn]at rv;cases ev:tY kvs k with
  |some v=>rw[ev]at rv;exact rv.elim
  |none=>have he:∃q,h'.get? a=some q:=let ⟨q,_,_,hq,_⟩:=dd';⟨q,hq⟩;exact h2 _ ev (EI I (by rw[e];exact True.intro) hs he (KL hp hd (rel.put k rz) dd'))
def LN(td ty tx:TE):TE:=λσ H Q=>td σ H λx H1=>∃a,x=.ref a/\IsD H1 a/\ty σ H1 λy H2=>tx σ H2 λz H3=>∃kvs k,H3 a=some (.dK kvs)/\y=kV k/\kvs.length<ay/\
 (∀v,tY kvs k=some v->Q v H3)/\(tY kvs k=none->Q z (upd H3 a (.dK (putK kvs k z))))
theorem LO{o f:Expr}{td ty tx:TE}(ho:PE X o td)(he:PE X e ty)(hf:PE X f tx)(m:M2 X o "setdefault" apos e f cpos):PE X (.Call (.Attribute o "setdefault" apos) [e,f] [] cpos) (LN td ty tx):=by
 intro pins s σ H Q I h;refine iR m.base m.few m.line iU j2 F.type_dict_setdefault (thn (ho pins s σ H _ I h) λu s1 zz=>?_);obtain⟨x,H1,I1,rx,a,ex,d,q1⟩:=zz;subst ex;obtain rfl:u=Value.ref a:=rx;obtain⟨t1,t2,_⟩:=GV I1 d;refine⟨t1,t2,?_⟩;rw[m.trees];refine fG rfl (gQ (dU (thn (he pins s1 σ H1 _ I1 q1) λiv s2 ⟨y,H2,I2,ry,q2⟩=>
  dU (thn (hf pins s2 σ H2 _ I2 q2) λfv s3 ⟨z,H3,I3,rz,kvs,k,e3,ey,hl,g1,g2⟩=>eQ ?_))))
 subst ey;exact Rw I3 e3 ry rz hl (λv w s' ev I' rw'=>⟨v,H3,I',rw',g1 v ev⟩) λs' ev I'=>⟨z,_,I',rz,g2 ev⟩
end
def yd(ks:List Key)(dss:List (List D))(k:Key)(d:D):List Key×List (List D):=
 if BA ks k=true then (ks,fw (λk' ds=>if k'=k then ds++[d]else ds) ks dss)else (ks++[k],dss++[[d]])
theorem F5{k:Key}:BA ks k=true ↔ k∈ks:=by unfold BA;rw[dA];exact⟨λ⟨x,h1,h2⟩=>bx h2▸h1,λh=>⟨k,h,aR rfl⟩⟩
variable{vs:List V}
theorem LP{k:Key}{v:V}:ks.length=vs.length->tY (ks.zip vs) k=some v->∃j:Nat,ks[j]?=some k/\vs[j]?=some v:=by
 induction ks generalizing vs with
 |nil=>intro _ h;cases h
 |cons k0 ks ih=>
  intro hl h;cases vs with
  |nil=>cases hl
  |cons v0 vs=>
   unfold tY at h;rw[du,dE]at h;by_cases e:k0=k
   ·subst e;simp only[decide_true]at h;cases h;exact⟨0,rfl,rfl⟩
   ·simp only[e,decide_false]at h;obtain⟨j,h1,h2⟩:=ih (by simpa using hl) h;exact⟨j+1,h1,h2⟩
theorem LQ{k:Key}:ks.length=vs.length->tY (ks.zip vs) k=none->k∉ks:=by
 induction ks generalizing vs with
 |nil=>intro _ _ h;cases h
 |cons k0 ks ih=>
  intro hl h hm;cases vs with
  |nil=>cases hl
  |cons v0 vs=>
   unfold tY at h;rw[du,dE]at h;by_cases e:k0=k
   ·subst e;simp only[decide_true]at h;cases h
   ·simp only[e,decide_false]at h;rcases aH.mp hm with z|z
    ·exact e z.symm
    ·exact ih (by simpa using hl) h z
structure Grp(G:Bg)(F:Fr)(H0 H:Hp)(a:Addr)(ks:List Key)(dss:List (List D))(bs:List Addr):Prop where
 at_:H a=some (.dK (ks.zip (bs.map V.ref)))
 n0:H0 a=none
 nB:F.B a=none
 len:ks.length=bs.length
 len':bs.length=dss.length
 nd:bs.Nodup
 kd:ks.Nodup
 each:∀(i:Nat) (b:Addr) (ds:List D),bs[i]?=some b->dss[i]?=some ds->∃xs,H b=some (.lst xs)/\H0 b=none/\F.B b=none/\pE G H0 ds xs
variable{j:Nat}
section
variable{G:Bg}{F:Fr}{σ:St}{ρ:List Sl}{H0 H H0' H':Hp}{a:Addr}{ks:List Key}{dss:List (List D)}{bs:List Addr}
theorem Grp.grow(g:Grp G F H0 H a ks dss bs)(hs:pL H H')(h0:pL H0 H0')(hf:∀b o,H0' b=some o->H0 b=some o\/H b=none):Grp G F H0' H' a ks dss bs where
 at_:=hs _ _ g.at_
 n0:=by
  cases q:H0' a with
  |none=>rfl
  |some o=>
   rcases hf a o q with z|z
   ·rw[g.n0]at z;cases z
   ·rw[g.at_]at z;cases z
 nB:=g.nB
 len:=g.len
 len':=g.len'
 nd:=g.nd
 kd:=g.kd
 each:=λi b ds e1 e2=>by
  obtain⟨xs,q1,q2,q3,q4⟩:=g.each i b ds e1 e2;refine⟨xs,hs _ _ q1,?_,q3,pE.mono h0 _ _ q4⟩;cases q:H0' b with
  |none=>rfl
  |some o=>
   rcases hf b o q with z|z
   ·rw[q2]at z;cases z
   ·rw[q1]at z;cases z
theorem pV.still(R:pV G F σ ρ H0 H)(no:∀s∈ρ,s.own=false):pV G ⟨H0,H,[]⟩ σ ρ H0 H where
 sub:=R.sub
 g0:=pL.refl _
 keep:=λb o e _=>e
 fr:=λb o e=>.inl e
 am:=λa h=>by cases h
 len:=R.len
 sl:=λi s e=>by
  have ok:=R.sl i s e;have n:=no s (bF e);cases s with
  |un=>trivial
  |im d=>exact ok
  |_=>cases n
 ap:=λi j s t b _ e _ so=>by rw[no s (bF e)]at so;cases so
theorem pV.touch(R:pV G F σ ρ H0 H)(no:∀s∈ρ,s.own=false)(hk:∀b o,H b=some o->(H0 b≠none\/F.B b≠none)->H' b=some o)(ha:∀b o,H b=some o->∃o',H' b=some o'):pV G F σ ρ H0 H' where
 sub:=λb o e=>hk b o (R.sub _ _ e) (.inl (by rw[e];exact λz=>nomatch z))
 g0:=R.g0
 keep:=λb o e n=>hk b o (R.keep b o e n) (.inr (by rw[e];exact λz=>nomatch z))
 fr:=R.fr
 am:=λb hb=>by obtain⟨o,e⟩:=R.am b hb;exact ha b o e
 len:=R.len
 sl:=λi s e=>by
  have ok:=R.sl i s e;have n:=no s (bF e);cases s with
  |un=>trivial
  |im d=>exact ok
  |_=>cases n
 ap:=λi j s t b _ e _ so=>by rw[no s (bF e)]at so;cases so
theorem Rx{bs:List Addr}(h:bs.Nodup){b:Addr}(e1:bs[i]?=some b)(e2:bs[j]?=some b):i=j:=by obtain⟨h1,q1⟩:=bE.mp e1;obtain⟨h2,q2⟩:=bE.mp e2;exact(iZ h).mp (q1.trans q2.symm)
theorem Ry{ks:List Key}(h:ks.Nodup){b:Key}(e1:ks[i]?=some b)(e2:ks[j]?=some b):i=j:=by obtain⟨h1,q1⟩:=bE.mp e1;obtain⟨h2,q2⟩:=bE.mp e2;exact(iZ h).mp (q1.trans q2.symm)
theorem Grp.more(g:Grp G F H0 H a ks dss bs){k:Key}{b:Addr}{v:V}(ek:ks[j]?=some k)(eb:bs[j]?=some b)(hx:H b=some (.lst xs))(rd:Rep G H0 d v):
  Grp G F H0 (upd H b (.lst (xs++[v]))) a (yd ks dss k d).1 (yd ks dss k d).2 bs:=by
 have hm:BA ks k=true:=F5.mpr (bF ek);unfold yd;rw[ah hm];have ne:a≠b:=λz=>by subst z;rw[g.at_]at hx;cases hx
 refine⟨by rw[pM ne];exact g.at_,g.n0,g.nB,g.len,?_,g.nd,g.kd,λi c ds e1 e2=>?_⟩
 ·rw[iH,<- g.len',<- g.len,fY,g.len]
 ·rw[List.getElem?_zipWith]at e2;cases q1:ks[i]? with
  |none=>rw[q1]at e2;cases e2
  |some k'=>
   cases q2:dss[i]? with
   |none=>rw[q1,q2]at e2;cases e2
   |some ds'=>
    rw[q1,q2]at e2;cases e2;obtain⟨ys,w1,w2,w3,w4⟩:=g.each i c ds' e1 q2;by_cases hk:k'=k
    ·subst hk;have ij:=Ry g.kd q1 ek;subst ij;rw[e1]at eb;cases eb;rw[w1]at hx;cases hx;rw[ah rfl];exact⟨_,pK,w2,w3,rq w4 (qr rd qf)⟩
    ·rw[aj hk];have nc:c≠b:=λz=>by subst z;have ij:=Rx g.nd e1 eb;subst ij;rw[q1]at ek;cases ek;exact hk rfl
     exact⟨ys,by rw[pM nc];exact w1,w2,w3,w4⟩
theorem Grp.fresh(g:Grp G F H0 H a ks dss bs){k:Key}{v:V}(hk:k∉ks)(hp:H p=none)(h0:H0 p=none)(hB:F.B p=none)(rd:Rep G H0 d v):
  Grp G F H0 (upd (upd (upd H p (.lst [])) a (.dK ((ks++[k]).zip ((bs++[p]).map V.ref)))) p (.lst [v])) a (yd ks dss k d).1 (yd ks dss k d).2 (bs++[p]):=by
 have hm:¬BA ks k=true:=λz=>hk (F5.mp z);unfold yd;rw[aj hm];have ne:a≠p:=λz=>by subst z;rw[g.at_]at hp;cases hp
 have np:p∉bs:=λz=>by
  obtain⟨i,hi,e⟩:=iI z;have e1:bs[i]?=some p:=by rw[aY hi,e]
  obtain⟨ds,e2⟩:∃ds,dss[i]?=some ds:=⟨dss[i]'(by rw[<-g.len'];exact hi),aY _⟩;obtain⟨ys,w1,_⟩:=g.each i p ds e1 e2;rw[hp]at w1;cases w1
 refine⟨by rw[pM ne,pK],g.n0,g.nB,by simp[g.len],by simp[g.len'],?_,?_,λi c ds e1 e2=>?_⟩
 ·rw[bJ];refine⟨g.nd,by simp,λx hx y hy=>?_⟩;rw[aX]at hy;subst hy;exact λz=>np (z▸hx)
 ·rw[bJ];refine⟨g.kd,by simp,λx hx y hy=>?_⟩;rw[aX]at hy;subst hy;exact λz=>hk (z▸hx)
 ·by_cases hi:i<bs.length
  ·rw[dR hi]at e1;rw[dR (by rw[<-g.len'];exact hi)]at e2;obtain⟨ys,w1,w2,w3,w4⟩:=g.each i c ds e1 e2;have nc:c≠p:=λz=>np (z▸bF e1);have na:c≠a:=λz=>by subst z;rw[g.at_]at w1;cases w1
   exact⟨ys,by rw[pM nc,pM na,pM nc];exact w1,w2,w3,w4⟩
  ·have hi':i=bs.length:=by have:i<(bs++[p]).length:=(bE.mp e1).1;rw[au,bP]at this;omega
   subst hi';rw[dQ (aC _),mK]at e1;rw[g.len',dQ (aC _),mK]at e2;cases e1;cases e2;exact⟨[v],pK,h0,hB,qr rd qf⟩
def F6(G:Bg)(fk:FE):TS:=Pi (tBM G.K "list" EG (LN (wy 1) (tF G fk) (Uq Dl)) (yW (wy 2) Dl))
theorem LR{D0:Ends}{x:D}{k:Key}{vr:V}(R:pV G F σ ρ H0 H)(no:∀s∈ρ,s.own=false)(h1:σ[1]?=some (some (.ref a)))(h2:σ[2]?=some (some vr))(rd:Rep G H0 d vr)
  (g:Grp G F H0 H a ks dss bs) (hk:fk ρ=some (x,ρ)) (ek:yV x=some k) (l1:ks.length<1000) (l2:∀ds∈dss,ds.length<1000)
  (kont:∀Hi Hj bs',pL H0 Hi->pV G F σ ρ Hi Hj->Grp G F Hi Hj a (yd ks dss k d).1 (yd ks dss k d).2 bs'->D0.nx σ Hj):F6 G fk D0 σ H:=by
 refine⟨.ref a,h1,a,rfl,.inl ⟨_,.inl g.at_⟩,_,_,_,x,ρ,pV.still R no,hk,λv H1 H1' s R1 r=>?_⟩;have hs:pL H H1':=λb o e=>R1.keep b o e (by simp);have hf:∀b o,H1 b=some o->H0 b=some o\/H b=none:=R1.fr;have R2:pV G F σ ρ H1 H1':=R.grow hs s R1.sub hf;have g2:Grp G F H1 H1' a ks dss bs:=g.grow hs s hf;have rd2:=Rep.mono s _ _ rd;refine⟨bR _,λp hp=>?_⟩;have np:a≠p:=λz=>by subst z;rw[g2.at_]at hp;cases hp
 have R3:pV G F σ ρ H1 (upd H1' p (.lst [])):=R2.newOwn hp _;have g3:Grp G F H1 (upd H1' p (.lst [])) a ks dss bs:=g2.grow (pX hp _) (pL.refl _) λb o e=>.inl e;have lz:(ks.zip (bs.map V.ref)).length<ay:=by rw[fU,af,<- g.len,fY,bK];omega
 refine⟨_,k,g3.at_,yL r ek,lz,λw ev=>?_,λev=>?_⟩
 ·obtain⟨j,e1,e2⟩:=LP (by rw[af];exact g.len) ev;rw[bb]at e2;cases eb:bs[j]? with
  |none=>rw[eb]at e2;cases e2
  |some b=>
   rw[eb]at e2;cases e2;obtain⟨ds,ed⟩:∃ds,dss[j]?=some ds:=⟨dss[j]'(by rw[<-g.len'];exact(bE.mp eb).1),aY _⟩;obtain⟨xs,w1,w2,w3,w4⟩:=g3.each j b ds eb ed;have lx:xs.length<ay:=by rw[<-pF w4,bK];have:=l2 ds (bF ed);omega
   refine⟨.inl ⟨rfl,xs,SqL.of w1⟩,vr,h2,b,xs,vr,rfl,rfl,w1,lx,?_⟩;refine kont H1 _ bs s (pV.touch R3 no (λc o e z=>?_) λc o e=>?_) (g3.more e1 eb w1 rd2)
   ·have nc:c≠b:=λy=>by
     subst y;rcases z with z|z
     ·exact z w2
     ·exact z w3
    rw[pM nc];exact e
   ·by_cases y:c=b
    ·subst y;exact⟨_,pK⟩
    ·rw[pM y];exact⟨o,e⟩
 ·have nk:=LQ (by rw[af];exact g.len) ev;have h0p:H1 p=none:=R2.h0none hp;have hBp:F.B p=none:=R2.bNone hp;have ez:putK (ks.zip (bs.map V.ref)) k (.ref p)=(ks++[k]).zip ((bs++[p]).map V.ref):=by rw[KI _ ev,aS,jb (by rw[af];exact g.len)];rfl
  rw[ez];have q0:upd (upd H1' p (.lst [])) a (.dK ((ks++[k]).zip ((bs++[p]).map V.ref))) p=some (.lst []):=by rw[pM (λz=>np z.symm),pK]
  refine⟨.inl ⟨rfl,[],SqL.of q0⟩,vr,h2,p,[],vr,rfl,rfl,q0,by rw[bK];decide,?_⟩;refine kont H1 _ (bs++[p]) s (pV.touch R3 no (λc o e z=>?_) λc o e=>?_) (g2.fresh nk hp h0p hBp rd2)
  ·have n1:c≠p:=λy=>by
    subst y;rcases z with z|z
    ·exact z h0p
    ·exact z hBp
   have n2:c≠a:=λy=>by
    subst y;rcases z with z|z
    ·exact z g2.n0
    ·exact z g2.nB
   rw[bY,pM n1,pM n2];exact e
  ·by_cases y:c=p
   ·subst y;exact⟨_,pK⟩
   ·rw[pM y];by_cases y2:c=a
    ·subst y2;exact⟨_,pK⟩
    ·rw[pM y2];exact⟨o,e⟩
end
def ye(vk:D->Option D):List D->List Key->List (List D)->Option (List Key×List (List D))
 |[],ks,dss=>some (ks,dss)
 |d::r,ks,dss=>match vk d with
  |some x=>match yV x with
   |some k=>if (decide (ks.length<1000)&&dss.all λds=>decide (ds.length<1000))=true then ye vk r (yd ks dss k d).1 (yd ks dss k d).2 else none
   |none=>none
  |none=>none
def Hk(vk:D->Option D):FS:=λρ=>match ρ with
 |[.im (.lst L),.un,.un]=>match ye vk L [] []with
  |some (ks,dss)=>some (.rt (.dic ks (dss.map .lst)) [.im (.lst L),.un,.un])
  |none=>none
 |_=>none
section
variable{X:Cx}{G:Bg}
theorem A5{Hq:Hp}:∀(bs:List Addr) (dss:List (List D)),bs.length=dss.length->(∀(i:Nat) (b:Addr) (ds:List D),bs[i]?=some b->dss[i]?=some ds->∃xs,Hq b=some (.lst xs)/\pE G Hq ds xs)->
  pE G Hq (dss.map .lst) (bs.map V.ref)
 |[],[],_,_=>qf
 |[],_::_,h,_=>by cases h
 |_::_,[],h,_=>by cases h
 |b::bs,ds::dss,h,k=>by obtain⟨xs,h1,h2⟩:=k 0 b ds rfl rfl;exact qr (wY h1 h2) (A5 bs dss (by simpa using h) λi b ds e1 e2=>k (i+1) b ds e1 e2)
theorem OL{F:Fr}{H0 H:Hp}{dss:List (List D)}{bs:List Addr}{L:List D}{s2:Sl}(R:pV G F σ [.im (.lst L),.un,s2] H0 H)(g:Grp G F H0 H a ks dss bs)(o:Obj):
  ∃Hq,pL H0 Hq/\pV G F σ [.im (.lst L),.un,.un] Hq (upd H a (.frz o (.dK (ks.zip (bs.map V.ref)))))/\Rep G Hq (.dic ks (dss.map .lst)) (.ref a):=by
 have mb:∀{b:Addr},b∈bs->∃xs,H b=some (.lst xs)/\H0 b=none/\F.B b=none:=λ{b} hb=>by obtain⟨i,hi,e⟩:=iI hb;obtain⟨xs,w1,w2,w3,_⟩:=g.each i b (dss[i]'(by rw[<-g.len'];exact hi)) (by rw[aY hi,e]) (aY _);exact⟨xs,w1,w2,w3⟩
 have na:a∉bs:=λz=>by obtain⟨xs,w1,_⟩:=mb z;rw[g.at_]at w1;cases w1
 have s0:pL H0 (λc=>if c=a then some (.frz o (.dK (ks.zip (bs.map V.ref))))else if c∈bs then H c else H0 c):=λc u e=>by
  have n1:c≠a:=λz=>by subst z;rw[g.n0]at e;cases e
  have n2:c∉bs:=λz=>by obtain⟨_,_,w2,_⟩:=mb z;rw[w2]at e;cases e
  show (if c=a then _ else if c∈bs then H c else H0 c)=_;rw[aj n1,aj n2];exact e
 refine⟨_,s0,?_,?_⟩
 ·exact {
   sub:=λc u e=>by
    have e':(if c=a then some (HO.frz o (.dK (ks.zip (bs.map V.ref))))else if c∈bs then H c else H0 c)=some u:=e;by_cases n1:c=a
    ·subst n1;rw[ah rfl]at e';rw[pK];exact e'
    ·rw[aj n1]at e';rw[pM n1];by_cases n2:c∈bs
     ·rw[ah n2]at e';exact e'
     ·rw[aj n2]at e';exact R.sub _ _ e'
   g0:=R.g0.trans s0
   keep:=λc u e n=>by rw[pM (λz=>by subst z;rw[g.nB]at e;cases e)];exact R.keep c u e n
   fr:=λc u e=>by
    have e':(if c=a then some (HO.frz o (.dK (ks.zip (bs.map V.ref))))else if c∈bs then H c else H0 c)=some u:=e;by_cases n1:c=a
    ·subst n1;exact .inr g.nB
    ·rw[aj n1]at e';by_cases n2:c∈bs
     ·obtain⟨_,_,_,w3⟩:=mb n2;exact .inr w3
     ·rw[aj n2]at e';exact R.fr _ _ e'
   am:=λc hc=>by
    by_cases n1:c=a
    ·subst n1;exact⟨_,pK⟩
    ·rw[pM n1];exact R.am c hc
   len:=R.len
   sl:=λi s e=>by
    match i,e with
    |0,e=>cases e;obtain⟨v,w1,w2⟩:=R.sl 0 _ rfl;exact⟨v,w1,Rep.mono s0 _ _ w2⟩
    |1,e=>cases e;trivial
    |2,e=>cases e;trivial
    |i+3,e=>cases e
   ap:=λi j s t b _ e _ so=>by
    match i,e with
    |0,e=>cases e;cases so
    |1,e=>cases e;cases so
    |2,e=>cases e;cases so
    |i+3,e=>cases e }
 ·unfold Rep;refine⟨a,o,bs.map V.ref,rfl,by show (if a=a then _ else _)=_;rw[ah rfl],by rw[af];exact g.len,A5 bs dss g.len' λi b ds e1 e2=>?_⟩;obtain⟨xs,w1,w2,w3,w4⟩:=g.each i b ds e1 e2;have hb:=bF e1;refine⟨xs,?_,pE.mono s0 _ _ w4⟩;show (if b=a then _ else if b∈bs then H b else H0 b)=_;have nb:b≠a:=λz=>na (by rw[<-z];exact hb);rw[aj nb,ah hb];exact w1
def LU{L:List D}{s2:Sl}(h:s2.own=false):∀s∈[Sl.im (.lst L),.un,s2],s.own=false:=λs hs=>by
 simp only[aH,bX,or_false]at hs;rcases hs with rfl|rfl|rfl
 ·rfl
 ·rfl
 ·exact h
inductive GI(G:Bg) (F:Fr) (Ha:Hp) (p:Addr) (L:List D) (vk:D->Option D) (KS:List Key) (DSS:List (List D)) (i:Nat) (σ':St) (H':Hp):Prop
 |mk (Hi:Hp) (ks:List Key) (dss:List (List D)) (bs:List Addr) (s2:Sl):pL Ha Hi->Sl.own s2=false->pV G F σ' [.im (.lst L),.un,s2] Hi H'->σ'[1]?=some (some (.ref p))->Grp G F Hi H' p ks dss bs->ye vk (L.drop i) ks dss=some (KS,DSS)->GI G F Ha p L vk KS DSS i σ' H'
theorem J2{st1 st2 st3:Stmt}{vk:D->Option D}(h1:PS X st1 (zf GU (vE 1)))(h2:PS X st2 (Qh (tFI G (iL (cV 0))) (vE 2) (F6 G (c1 vk (cV 2)))))
  (h3:PS X st3 (T9 (λσ H Q=>wy 1 σ H λx H1=>Q x H1\/∃a kvs,H1 a=some (.dK kvs)/\∀o,Q x (upd H1 a (.frz o (.dK kvs)))))):PSs X [st1,st2,st3] (tFS G (Hk vk)):=
 PSs.weak (BP h1 (BP h2 (Eu h3))) λE σ H hh=>by
  obtain⟨F,ρ,H0,o,R,e,k,k2⟩:=hh;unfold Hk at e;split at e
  ·rename_i L;cases eg:ye vk L [] []with
   |none=>simp only[eg]at e;cases e
   |some p=>
    obtain⟨KS,DSS⟩:=p;simp only[eg]at e;cases e;intro p hp;have R1:pV G F (σ.set 1 (some (.ref p))) [.im (.lst L),.un,.un] H0 (upd H p (.dK [])):=(R.newOwn hp (.dK [])).set (i:=1) (v:=.ref p) (s:=.un) trivial (λz=>by cases z);have hlen:σ.length=3:=R.len;have g1:Grp G F H0 (upd H p (.dK [])) p [] [] []:=⟨pK,R.h0none hp,R.bNone hp,rfl,rfl,mj,mj,λi b ds e1=>by cases e1⟩;have v1:(σ.set 1 (some (V.ref p)))[1]?=some (some (.ref p)):=by rw[gE (by rw[hlen];decide)]
    refine⟨_,_,_,L,_,pV.still R1 (LU rfl),rfl,λJ Ha Hb s Ra wk=>?_⟩;have hs:pL (upd H p (.dK [])) Hb:=λb o e=>Ra.keep b o e (by simp);have R2:=R1.grow hs s Ra.sub Ra.fr;have g2:=g1.grow hs s Ra.fr;refine⟨λi m σ' H'=>m=L.length - i/\i<=L.length/\GI G F Ha p L vk KS DSS i σ' H',
     ⟨_,rfl,bR _,Ha,[],[],[],.un,pL.refl _,rfl,R2,v1,g2,eg⟩,?_⟩
    rintro i m σi Hi' ⟨rfl,hi,Hi,ks,dss,bs,s2,si,n2,Ri,vi,gi,ei⟩;by_cases hlt:i<L.length
    ·have ed:L.drop i=L[i]::L.drop (i+1):=gv hlt;rw[ed]at ei;unfold ye at ei;cases ev:vk L[i]with
     |none=>simp only[ev]at ei;cases ei
     |some x=>
      simp only[ev]at ei;cases ek:yV x with
      |none=>simp only[ek]at ei;cases ei
      |some kk=>
       simp only[ek]at ei;split at ei
       ·rename_i hb;simp only[aF,bw,aE]at hb;obtain⟨go,yl⟩:=(wk i Hi Hi' si Ri.sub).1 L[i] (aY hlt);refine .inr ⟨go,GI G F Ha p L vk KS DSS (i+1),
         λσ' H' q=>⟨L.length - (i+1),by omega,rfl,hlt,q⟩,λxv H' y=>?_⟩
        obtain⟨H2,t1,t2,t3,t4,t5⟩:=yl xv H' y;have hl3:σi.length=3:=Ri.len;have R3:pV G F (σi.set 2 (some xv)) [.im (.lst L),.un,.im L[i]] H2 H':=(Ri.grow t3 t1 t2 t4).setIm 2 t5;have w1:(σi.set 2 (some xv))[1]?=some (some (.ref p)):=by rw[iC (by decide)];exact vi
        have w2:(σi.set 2 (some xv))[2]?=some (some xv):=by rw[gE (by rw[hl3];decide)]
        refine LR R3 (LU rfl) w1 w2 t5 (gi.grow t3 t1 t4) (by show c1 vk (cV 2) _=_;unfold c1 cV;simp only[List.getElem?_cons_succ,List.getElem?_cons_zero,ev]) ek hb.1 (λds hd=>hb.2 ds hd) λHc Hd bs' sc Rc gc=>?_;exact⟨Hc,_,_,bs',_,si.trans (t1.trans sc),rfl,Rc,w1,gc,ei⟩
       ·cases ei
    ·have hi':i=L.length:=by omega
     refine .inl ⟨(wk i Hi Hi' si Ri.sub).2 hi',?_⟩;subst hi';rw[List.drop_length]at ei;cases ei;refine⟨.ref p,vi,.inr ⟨p,_,gi.at_,λo=>?_⟩⟩;obtain⟨Hq,q1,q2,q3⟩:=OL Ri gi o;exact k _ _ Hq _ (s.trans (si.trans q1)) q2 q3
  ·cases e
end
section
variable{X:Cx}{G:Bg}
theorem OM:∀y b,qU "int" y=some b->cj X.K (y.val G) (.type "int")=some b:=λy b h=>by
 cases y with
 |c k=>cases h
 |b n=>
  unfold qU at h;simp only at h
  iterate 7 (split at h;· rename_i e;subst e;cases h;first|rfl|kernel_rfl)
  cases h
theorem LV:∀y b,qU "bool" y=some b->cj X.K (y.val G) (.type "bool")=some b:=λy b h=>by
 cases y with
 |c k=>cases h
 |b n=>
  unfold qU at h;simp only at h
  iterate 7 (split at h;· rename_i e;subst e;cases h;first|rfl|kernel_rfl)
  cases h
theorem kit_tuple:∀y b,qU "tuple" y=some b->cj X.K (y.val G) (.type "tuple")=some b:=λy b h=>by
 cases y with
 |c k=>cases h
 |b n=>
  unfold qU at h;simp only at h
  iterate 7 (split at h;· rename_i e;subst e;cases h;first|rfl|kernel_rfl)
  cases h
end
end L4
namespace L4
open PySem PySem.Spec PySem.Calls PyProof.Rows PySem.W L2 L3
def ON(a:Addr)(h h':Heap):Prop:=∀b o,b≠a->h.get? b=some o->h'.get? b=some o
inductive vF:List aa->List Str->Prop
 |nil:vF [] []
 |cons (x:Str) (t:Tok) {vs:List aa} {xs:List Str} (h:vF vs xs):vF (.str x t::vs) (x::xs)
section
variable{X:Cx}{G:Bg}{pins:List (Addr×Obj)}{σ:St}{H:Hp}{s:ab}
def A6:List D->Option (List Str)
 |[]=>some []
 |.str x::ds=>match A6 ds with
  |some xs=>some (x::xs)
  |none=>none
 |_=>none
theorem Cn:∀{ds:List D} {xs:List V} {l:List Str},pE G H ds xs->A6 ds=some l->xs=l.map V.str
 |[],xs,l,r,e=>by cases e;unfold pE at r;exact r
 |d::ds,xs,l,r,e=>by
  cases d with
  |str x=>
   unfold A6 at e;cases e1:A6 ds with
   |none=>rw[e1]at e;cases e
   |some l'=>rw[e1]at e;cases e;unfold pE at r;obtain⟨v,r',rfl,h1,h2⟩:=r;unfold Rep at h1;subst h1;rw[Cn h2 e1,aG]
  |_=>cases e
end
end L4
namespace L4
open PySem PySem.Spec PyProof.Rows L2 L3
section
variable{X:Cx}{G:Bg}
theorem OO:OpD G (λx y H Q=>∃z n,x=.str z/\y=.int n/\MulOk z n/\Q (.str (jN z n)) H) Cj:=λx y z H0 H v u Q e s rx ry k=>by
 unfold Cj at e;split at e
 ·rename_i a n;split at e
  ·rename_i hl;obtain⟨h0,h1,h2⟩:=hl;cases e;unfold Rep at rx ry;refine⟨a,n,rx,ry,⟨?_,λh3 h4 h5=>?_,λh3 h4=>?_⟩,k _ λ_ _=>uJ _⟩
   ·rw[iE];exact⟨aN (by omega),aN (by omega)⟩
   ·have hn:(0:Int)<n:=by omega
    have q:(9223372036854775807:Int) / n >= 9223372036854775:=by have:=Int.le_ediv_of_mul_le (a:=9223372036854775) (b:=9223372036854775807) hn (by omega);exact this
    have:((2:Int) ^ 63 - 1)=9223372036854775807:=by decide
    rw[this]at h5;omega
   ·have hn:n.toNat<=1000:=by omega
    have:a.length * n.toNat<=100 * 1000:=Nat.mul_le_mul h2 hn;refine aN ?_;rw[bK];omega
  ·cases e
 ·cases e
end
def II:List String:=["NoneType", "bool", "int", "str", "tuple", "list", "dict"]
def tN(n c:Nat):Ty->Option Bool:=λy=>match y with
 |.b x=>if II.contains x=true then some false else none
 |.c k=>if k<n then some (k==c)else none
def rA(K:ak)(cs:List Addr)(C:Addr)(c:Nat):Bool:=
 II.all (λx=>cj K (.type x) (.ref C)==some false)&&(aL cs.length).all λk=>cj K (.ref (cs.getD k 0)) (.ref C)==some (k==c)
theorem qI{B:Bg}{n c:Nat}{cs:List Addr}(h:rA B.K cs (B.ca c) c=true)(hn:cs.length=n)(hc:∀k,k<n->cs.getD k 0=B.ca k)(hI:∀k,k<n->FR B.K (B.ca k)):Ck B c (tN n c):=by
 unfold rA at h;rw[aF,aE,aE]at h;refine⟨λy b e=>?_,λj b e=>?_⟩
 ·cases y with
  |b x=>
   unfold tN at e;simp only at e;split at e
   ·rename_i hx;cases e;exact eD (h.1 x (iA.mp hx))
   ·cases e
  |c k=>
   unfold tN at e;simp only at e;split at e
   ·rename_i hk;cases e;have:=eD (h.2 k (bo.mpr (by omega)));rw[hc k hk]at this;exact this
   ·cases e
 ·unfold tN at e;simp only at e;split at e
  ·rename_i hk;exact hI j hk
  ·cases e
theorem RA{l:List Addr}(h:l.Nodup){j k:Nat}(hj:j<l.length)(hk:k<l.length)(e:l.getD j 0=l.getD k 0):j=k:=by
 rw[gr,gr,aY hj,aY hk]at e;have pw:=List.pairwise_iff_getElem.mp h;rcases Nat.lt_trichotomy j k with y|y|y
 ·exact ao e (pw j k hj hk y)
 ·exact y
 ·exact ao e.symm (pw k j hk hj y)
variable{x:Str}
section
variable{B:Bg}{K:ak}{mg:Str->Option aa}{h:Heap}
theorem const_int{i:Int}{t:Tok}(X:K.In h)(Gn:h.Ns aK mg)(e:gn K aK x=some (some (.int i t))):yJ B mg x (.int i):=
 ⟨.int i,_,iq X Gn e,⟨_,rfl⟩,λ_=>rS _⟩
inductive xf:List aa->List Str->Prop
 |nil:xf [] []
 |cons {v:aa} {x:Str} {t:Tok} {vs:List aa} {xs:List Str} (e:v=.str x t) (h:xf vs xs):xf (v::vs) (x::xs)
theorem xf.vals{vs:List aa}{xs:List Str}(h:xf vs xs):Vals (xs.map V.str) vs:=by
 induction h with
 |nil=>exact .nil
 |cons e h ih=>exact .cons ⟨_,e⟩ ih
theorem Cp{H:Hp}:∀xs:List Str,pE B H (xs.map D.str) (xs.map V.str)
 |[]=>qf
 |x::xs=>qr (uJ x) (Cp xs)
theorem Hl{a:Addr}{o:Obj}{its:Array aa}{n:Nat}(xs:List Str)(X:B.K.In h)(Gn:h.Ns aK mg)(e:gn B.K aK x=some (some (.ref a)))(l:B.K.lookup a=some o)(hc:o.cls=.type "tuple")(hd:o.data=.seq its n)(hz:its.size<=1000)
  (r:xf its.toList xs):yJ B mg x (.tup (xs.map D.str)):=
 ⟨.ref a,_,iq X Gn e,rfl,λH=>BF (.inr ⟨o,its,n,l,hc,hd,by rw[bK];omega,r.vals⟩) (Cp xs)⟩
end
variable{l ns:List Str}{np:Nat}
section
variable{f g' h:FS}{c:FT}{e e' e2:FE}{a a':FA}{ρ ρ' ρ1 ρ2 ρ3:List Sl}{d x y z:D}{ds xs ys:List D}{k:Nat}{cap:List Nat}{g:FG}{ft:FT}{fe:FE}
theorem Cq{α:Type}(dd:α->D)(p:α->Bool)(h:α->D):∀l:List α,
  (∀a∈l,∃ρ1 ρ2,g (dd a) (zN k cap ρ)=some ρ1/\ft ρ1=some (p a,ρ2)/\(p a=true->∃ρ3,fe ρ2=some (h a,ρ3)/\sH cap (ρ3.drop k) ρ=some ρ)/\(p a=false->sH cap (ρ2.drop k) ρ=some ρ))->
  u5 k cap g ft fe (l.map dd) ρ=some ((l.filter p).map h,ρ)
 |[],_=>rfl
 |a::l,st=>by
  obtain⟨ρ1,ρ2,h1,h2,h3,h4⟩:=st a aP;have ih:=Cq dd p h l λa' ha=>st a' (aO _ ha);rw[aG];unfold u5;rw[h1];simp only[h2];cases hp:p a with
  |true=>obtain⟨ρ3,h5,h6⟩:=h3 hp;simp only[h5,h6,ih,i7,hp,if_true,aG]
  |false=>simp only[h4 hp,ih,i7,hp];rfl
theorem OP{α:Type}(dd:α->D)(h:α->D)(l:List α)(st:∀a∈l,∃ρ1 ρ3,g (dd a) (zN k cap ρ)=some ρ1/\fe ρ1=some (h a,ρ3)/\sH cap (ρ3.drop k) ρ=some ρ):u5 k cap g qg fe (l.map dd) ρ=some (l.map h,ρ):=by have:=Cq (ft:=qg) dd (λ_=>true) h l λa ha=>let ⟨ρ1,ρ3,h1,h2,h3⟩:=st a ha;⟨ρ1,ρ1,h1,rfl,λ_=>⟨ρ3,h2,h3⟩,λz=>by cases z⟩;rw[this,ky.mpr λ_ _=>rfl]
theorem BJ(neg:Bool)(a b:Str):dEq neg (.str a) (.str b)=some (.bl (if neg then !decide (a=b)else decide (a=b))):=by
 have e:EM neg (.str a) (.str b)=some (.bl (if neg then !decide (V.str a=V.str b)else decide (V.str a=V.str b))):=rfl;have e2:decide (V.str a=V.str b)=decide (a=b):=by
  by_cases h:a=b
  ·subst h;simp
  ·rw[aN h,aN (λz=>h (by injection z))]
 unfold dEq;rw[e,e2]
theorem LW(a:Str)(l:List Str):inV (V.str a) (l.map V.str)=decide (a∈l):=by
 unfold inV;rw[cE,dA,bw];constructor
 ·rintro⟨v,hv,he⟩;obtain⟨b,hb,rfl⟩:=az.mp hv;have:b=a:=by unfold eqV at he;simpa using he
  rw[<-this];exact hb
 ·intro ha;refine⟨.str a,bM ha,?_⟩;unfold eqV;simp
theorem J3(l:List Str):(l.map D.str).all sq=true:=by rw[mM,aE];intro x _;rfl
theorem OQ(l:List Str):(l.map D.str).map vD=l.map V.str:=by rw[aJ];rfl
theorem ve(neg:Bool)(a:Str)(l:List Str):dIn neg (.str a) (.lst (l.map D.str))=some (.bl (if neg then !decide (a∈l)else decide (a∈l))):=by unfold dIn;show (if sq (.str a)&&(l.map D.str).all sq then some (D.bl (if neg then !inV (vD (.str a)) ((l.map D.str).map vD)else inV (vD (.str a)) ((l.map D.str).map vD)))else none)=_;rw[J3,OQ];show some (D.bl (if neg then !inV (V.str a) (l.map V.str)else inV (V.str a) (l.map V.str)))=_;rw[LW]
theorem LX(neg:Bool)(a:Str)(l:List Str):dIn neg (.str a) (.tup (l.map D.str))=some (.bl (if neg then !decide (a∈l)else decide (a∈l))):=ve neg a l
theorem ET:∀bs:List Bool,Dv (bs.map D.bl)=some bs
 |[]=>rfl
 |b::bs=>by rw[aG];unfold Dv;rw[ET bs];rfl
theorem LY(bs:List Bool):uy (.lst (bs.map D.bl))=some (.bl (bs.all id)):=by unfold uy;simp only[ET];rfl
theorem LZ(bs:List Bool):Ci (.lst (bs.map D.bl))=some (.bl (bs.any id)):=by unfold Ci;simp only[ET];rfl
theorem OR{α:Type}(l:List α)(p:α->Bool):uy (.lst (l.map λa=>D.bl (p a)))=some (.bl (l.all p)):=by rw[show (l.map λa=>D.bl (p a))=(l.map p).map D.bl by rw[aJ];rfl,LY,mM];rfl
theorem OS{α:Type}(l:List α)(p:α->Bool):Ci (.lst (l.map λa=>D.bl (p a)))=some (.bl (l.any p)):=by rw[show (l.map λa=>D.bl (p a))=(l.map p).map D.bl by rw[aJ];rfl,LZ,List.any_map];rfl
theorem Cr:∀l:List Str,A2 (l.map D.str)=some (l.map Sum.inr)
 |[]=>rfl
 |x::l=>by rw[aG];unfold A2;rw[Cr l];rfl
theorem L6:∀(l acc:List Key),(acc++l).Nodup->l.foldl ddp acc=acc++l
 |[],acc,_=>by rw[bA];rfl
 |k::l,acc,h=>by
  have hn:acc.any (λz=>decide (z=k))=false:=by rw[iW];intro z;obtain⟨y,hy,ey⟩:=dA.mp z;rw[bJ]at h;exact h.2.2 y hy k aP (bx ey)
  rw[fS,show ddp acc k=acc++[k] by unfold ddp;rw[hn];rfl,L6 l (acc++[k]) (by simpa using h)];simp
theorem yM(h:l.Nodup):(l.map (Sum.inr:Str->Key)).Nodup:=by unfold List.Nodup at h ⊢;rw[List.pairwise_map];exact h.imp λhne z=>hne (jz z)
theorem F7(h:l.Nodup)(hl:l.length<=1000):sf (l.map D.str)=some (.int l.length):=by unfold sf;rw[Cr];simp only[af,hl,if_true];unfold vC;rw[L6 _ [] (by simpa using yM h)];simp
theorem uL(neg:Bool)(a b:Int):dEq neg (.int a) (.int b)=some (.bl (if neg then !decide (a=b)else decide (a=b))):=by
 have e:EM neg (.int a) (.int b)=some (.bl (if neg then !decide (V.int a=V.int b)else decide (V.int a=V.int b))):=rfl;have e2:decide (V.int a=V.int b)=decide (a=b):=by
  by_cases h:a=b
  ·subst h;simp
  ·rw[aN h,aN (λz=>h (by injection z))]
 unfold dEq;rw[e,e2]
theorem qj(h1:e ρ=some (.bl true,ρ1)):q8 e e' ρ=e' ρ1:=by unfold q8;rw[h1]
theorem rE{g:Nat->Option (List D->Option D)}{m:Str}{c:Nat}{hh:List D->Option D}(h1:e ρ=some (.obj c ns xs,ρ1))(h2:g c=some hh)(h3:ns.contains m=false)(h4:a ρ1=some (ys,ρ2))(h5:hh (.obj c ns xs::ys)=some d):qB g m e a ρ=some (d,ρ2):=by unfold qB;rw[h1];simp only[h2,h3,h4,h5];rfl
theorem rF{c:Nat}{g:List D->Option (List Str×List D)}(h1:a ρ=some (ds,ρ1))(h2:g ds=some (ns,xs)):pY c g a ρ=some (.obj c ns xs,ρ1):=by unfold pY;rw[h1];simp only[h2]
theorem xg{n:Nat}{b:FS}(hl:ds.length=np)(h:b (L4.stE n ds)=some (.nx ρ)):fnD np n b ds=some .non:=by unfold fnD;rw[ah hl,h]
theorem EU{n:Nat}{b:FS}(hl:ds.length=np)(h:b (L4.stE n ds)=some (.rn xs ρ)):fnD np n b ds=some (.lst xs):=by unfold fnD;rw[ah hl,h]
theorem zY:∀{ks:List Key} {ds:List D} {k:Key} {d:D},ks.Nodup->(k,d)∈ks.zip ds->vH ks ds k=some d
 |[],_,k,d,_,h=>by simp at h
 |k'::ks,[],k,d,_,h=>by simp at h
 |k'::ks,d'::ds,k,d,nd,h=>by
  unfold vH;rw[du]at h;rcases aH.mp h with e|h
  ·cases e;rw[ah rfl]
  ·rw[dD]at nd;rw[aj (λz=>nd.1 (by subst z;exact(gY h).1))];exact zY nd.2 h
end
end L4
namespace L4
open PySem PySem.Spec PyProof.Rows L2 L3
open PySem.W (nsIn findIn keepIn isFn makesIn fnOf)
def Hm{α:Type}:Nat->(List α->Prop)->Prop
 |0,P=>P []
 |n+1,P=>∀a,Hm n λl=>P (a::l)
theorem BK{α:Type}:∀{n:Nat} {P:List α->Prop},Hm n P->∀l,l.length=n->P l
 |0,P,h,[],_=>h
 |n+1,P,h,a::l,e=>BK (P:=λl=>P (a::l)) (h a) l (fZ e)
structure CF(K:ak)(C:Addr)(xs:List Str):Prop where
 ci:FR K C
 mks:makesIn K C=true
 kp:keepIn K (.ref C)=true
 na:(xs.all λx=>match findIn K (.ref C) x with|some none=>true|_=>false)=true
theorem CF.at{K:ak}{C:Addr}{xs:List Str}(c:CF K C xs)(i:Nat){x:Str}(h:xs[i]?=some x):Cls K C/\uX K C x:=⟨c.ci.cl,by
 have e:=aE.mp c.na x (bF h);unfold uX;split at e
 ·rename_i e1;exact e1
 ·cases e⟩
variable{i:Nat}
theorem sT{Q:Nat->Prop}(h:Q i):∀c,(c==i)=true->Q c:=λc e=>by rw[beq_iff_eq]at e;subst e;exact h
theorem orQ{Q:Nat->Prop}{p:Nat->Bool}(h:∀c,p c=true->Q c)(h':Q i):∀c,(p c||c==i)=true->Q c:=λc e=>by
 rw[gZ]at e;rcases e with e|e
 ·exact h c e
 ·exact sT h' c e
structure Yw(P:ar)(w:aq)(mg:Str->Option aa)(base:Heap)(G:Bg):Prop where
 m:∃h:Heap,G.K.In h/\h.Ns aK mg
variable{np:Nat}{vs:List V}{us:List aa}
section
variable{P:ar}{w:aq}{mg:Str->Option aa}{base:Heap}{G:Bg}{x m qual:Str}{st:Stmt}{N ps:List Str}{k c:Nat}{K:ak}
theorem Yw.g(y:Yw P w mg base G){v:aa}(e:nsIn G.K aK x=some (some v)):mg x=some v:=by obtain⟨h,X,Gn⟩:=y.m;exact iq X Gn e
theorem Yw.n(y:Yw P w mg base G){xs:List Str}(h:(xs.all λx=>match nsIn G.K aK x with|some none=>true|_=>false)=true)(i:Nat)(hi:xs[i]?=some x):mg x=none:=by
 obtain⟨hh,X,Gn⟩:=y.m;have e:=aE.mp h x (bF hi);split at e
 ·rename_i e1;exact W.mg_none_of X Gn e1
 ·cases e
def GC(K:ak)(x:Str)(i:Int):Prop:=∃t:Tok,nsIn K aK x=some (some (.int i t))
theorem Yw.ci(y:Yw P w mg base G){i:Int}(q:GC G.K x i):yJ G mg x (.int i):=by obtain⟨h,X,Gn⟩:=y.m;obtain⟨t,e⟩:=q;exact const_int X Gn e
def GS(K:ak)(x:Str)(xs:List Str):Prop:=∃(a:Addr) (o:Obj) (its:Array aa) (n:Nat),nsIn K aK x=some (some (.ref a))/\K.lookup a=some o/\o.cls=.type "tuple" /\ o.data=.seq its n/\its.size<=1000/\xf its.toList xs
theorem Yw.cs(y:Yw P w mg base G){xs:List Str}(q:GS G.K x xs):yJ G mg x (.tup (xs.map D.str)):=by obtain⟨h,X,Gn⟩:=y.m;obtain⟨a,o,its,n,e,l,h1,h2,h3,h4⟩:=q;exact Hl xs X Gn e l h1 h2 h3 h4
def GD(K:ak)(x:Str)(st:Stmt):Prop:=∃(f:Addr) (fd:bB),nsIn K aK x=some (some (.ref f))/\Fun K x x st f fd
def GM(K:ak)(C:Addr)(m qual:Str)(st:Stmt):Prop:=∃(f:Addr) (fd:bB),findIn K (.ref C) m=some (some (.ref f))/\isFn K (.ref f)=true/\Fun K m qual st f fd
def GJ(K:ak)(C:Addr)(qual:Str)(st:Stmt)(vs:List V):Prop:=∃(f:Addr) (fd:bB) (T:Addr) (o:Obj) (dl:List aa) (n:Nat),findIn K (.ref C) "__init__" = some (some (.ref f))/\isFn K (.ref f)=true/\JH K "__init__" qual st f fd T/\K.lookup T=some o/\o.data=.seq dl.toArray n/\Vals vs dl
abbrev Bdy(P:ar)(w:aq)(K:ak)(mg:Str->Option aa)(base:Heap)(N:List Str)(qual:Str)(st:Stmt)(k:Nat)(t:TS):Prop:=∀(f:Addr) (cdv:aa) (A:av) (outer:List Env) (s:ab) (H:Hp) (E:XK),rG k (A.deeper (envOfC qual (pP st) s.heap.objs.size f cdv))->PSs (A0 P w K mg base N qual st f cdv A outer s H E) (qo st) t
abbrev Bds(x qual:Str)(st:Stmt)(ps:List Str):Prop:=Hm ps.length λus=>∀(kV doc pm:aa) (an:Option Addr) (cdv ct:aa),bindArgs (fnOf x qual (tI st) (qo st) (pP st) .none kV doc pm an cdv ct) ⟨us,[]⟩=pure (ps.zip us)
theorem Bds.ok{f:Addr}{fd:bB}(b:Bds x qual st ps)(F:Fun K x qual st f fd):Binds K fd ps []:=F.binds λkV doc pm an cdv ct us hl=>BK b us hl kV doc pm an cdv ct
theorem gD{sp:Sp}(y:Yw P w mg base G)(q:GD G.K x st)(bd:Bds x x st ps)(ok:∀f fd,Fun G.K x x st f fd->uw P w G.K mg base CX0 k f fd ps sp):y3 P w G.K mg base k x ps sp:=by obtain⟨f,fd,a,F⟩:=q;exact⟨f,fd,y.g a,F.kp,bd.ok F,ok f fd F⟩
theorem gF{n:Nat}{g:List D->Option D}{b:FS}(hg:g=fnD np n b)(y:Yw P w mg base G)(q:GD G.K x st)(S:rR N ps (pP st))(body:Bdy P w G.K mg base N x st k (tFS G b))(hp:ps.length=np:=by rfl)(hN:N.length=n:=by rfl)(bd:Bds x x st ps:=by (repeat intro _);rfl):y3 P w G.K mg base (k+1) x ps (spF G g):=
 gD y q bd λf fd F=>Ls hg hp hN F S (body f)
theorem gN'{n:Nat}{g:List D->Option (List D)}{b:FS}(hg:g=fnN np n b)(y:Yw P w mg base G)(q:GD G.K x st)(S:rR N ps (pP st))(body:Bdy P w G.K mg base N x st k (tFS G b))(hp:ps.length=np:=by rfl)(hN:N.length=n:=by rfl)(bd:Bds x x st ps:=by (repeat intro _);rfl):y3 P w G.K mg base (k+1) x ps (spN G g):=
 gD y q bd λf fd F=>UV hg hp hN F S (body f)
theorem gM{n:Nat}{g:List D->List D->Option (D×List D)}{b:FS}{p:Str}(hg:g=fnM np n b)(y:Yw P w mg base G)(q:GD G.K x st)(S:rR N (p::ps) (pP st))(body:Bdy P w G.K mg base N x st k (tFS G b))(hp:ps.length=np:=by rfl)(hN:N.length=n:=by rfl)(bd:Bds x x st (p::ps):=by (repeat intro _);rfl):y3 P w G.K mg base (k+1) x (p::ps) (spM G g):=
 gD y q bd λf fd F=>UW hg hp hN F S (body f)
theorem gI{n:Nat}{g:List D->Option (List Str×List D)}{b:FS}{xs:List Str}{p:Str}(hg:g=fnI c np n b)(y:Yw P w mg base G)(C:CF G.K (G.ca c) xs)(a:nsIn G.K aK x=some (some (.ref (G.ca c))))(q:GM G.K (G.ca c) "__init__" qual st)(S:rR N (p::ps) (pP st))(body:Bdy P w G.K mg base N qual st k (tFS G b))(hp:ps.length=np:=by rfl)(hN:N.length=n:=by rfl)(bd:Bds "__init__" qual st (p::ps):=by (repeat intro _);rfl):EN G P w mg base (k+1) x c (p::ps) [] g:=by obtain⟨f,fd,i,i',F⟩:=q;exact⟨f,fd,[],⟨C.mks,i,i',C.kp⟩,y.g a,bd.ok F,.nil,UX hg hp hN F S (body f)⟩
theorem F8(h:Vals vs us):us.length=vs.length:=by
 induction h with
 |nil=>rfl
 |cons _ _ ih=>rw[aB,aB,ih]
theorem J4(h:Vals vs us):∀j,Vals (vs.drop j) (us.drop j):=by
 induction h with
 |nil=>intro j;rw[mG,mG];exact .nil
 |cons a b ih=>
  intro j;cases j with
  |zero=>exact .cons a b
  |succ j=>exact ih j
theorem gJ{n:Nat}{g:List D->Option (List Str×List D)}{b:FS}{xs:List Str}{p:Str}(hg:g=fnI c np n b)(y:Yw P w mg base G)(C:CF G.K (G.ca c) xs)(a:nsIn G.K aK x=some (some (.ref (G.ca c))))(q:GJ G.K (G.ca c) qual st vs)(S:rR N (p::ps) (pP st))(body:Bdy P w G.K mg base N qual st k (tFS G b))(j:Nat)(hp:ps.length=np:=by rfl)(hN:N.length=n:=by rfl)
  (bd:Hm vs.length λdl=>Hm ((p::ps).length - (vs.drop j).length) λus=>∀(T:Addr) (kV doc pm:aa) (an:Option Addr) (cdv ct:aa),∃k,bindArgs (fnOf "__init__" qual (tI st) (qo st) (pP st) (.ref T) kV doc pm an cdv ct) ⟨us,[]⟩=seqItems? (.ref T)>>=k/\k (some dl.toArray)=pure ((p::ps).zip (us++dl.drop j)):=by (repeat intro _);exact⟨_,rfl,rfl⟩):EN G P w mg base (k+1) x c (p::ps) (vs.drop j) g:=by
 obtain⟨f,fd,T,o,dl,n,i,i',F,l,e,r⟩:=q;refine⟨f,fd,dl.drop j,⟨C.mks,i,i',C.kp⟩,y.g a,F.binds l e λkV doc pm an cdv ct us hl=>?_,J4 r j,Rj hg hp hN F S (body f)⟩;exact BK (BK bd dl (F8 r)) us (by rw[hl,dw,dw,F8 r]) T kV doc pm an cdv ct
end
end L4
namespace L4
open PySem PySem.Spec PyProof.Rows L2 L3
def leS(a b:Str):Bool:=decide (a.cps.toList<=b.cps.toList)
def yf(ss:List Str):List Str:=ss.mergeSort leS
theorem Cs(a b c:Str)(h:leS a b=true)(h':leS b c=true):leS a c=true:=aR (List.le_trans (bx h) (bx h'))
theorem BL(a b:Str):(leS a b||leS b a)=true:=by
 rw[gZ];rcases List.le_total a.cps.toList b.cps.toList with h|h
 ·exact .inl (aR h)
 ·exact .inr (aR h)
theorem Ct(a b:Str)(h:leS a b=true)(h':leS b a=true):a=b:=by have e:=List.le_antisymm (bx h) (bx h');cases a with|mk a=>cases b with|mk b=>cases a;cases b;simp only at e;rw[e]
theorem AB:∀(r:List Str) (x:Str),risingS x r=true->(∀y∈r,leS x y=true)/\r.Pairwise λa b=>leS a b=true
 |[],x,_=>⟨λy h=>(bX h).elim,.nil⟩
 |z::r,x,h=>by
  unfold risingS at h;rw[aF,eT,ltCps_eq]at h;obtain⟨h1,h2⟩:=h;obtain⟨g1,g2⟩:=AB r z h2;have h3:leS x z=true:=aR (of_decide_eq_false h1);refine⟨λy hy=>?_,.cons g1 g2⟩;rcases aH.mp hy with e|hy
  ·rw[e];exact h3
  ·exact Cs _ _ _ h3 (g1 y hy)
theorem Hn:∀l:List Str,sortedS l=true->l.Pairwise λa b=>leS a b=true
 |[],_=>.nil
 |x::r,h=>.cons (AB r x h).1 (AB r x h).2
theorem Ho{l ss:List Str}(p:l.Perm ss)(h:sortedS l=true):l=yf ss:=
 ix (λa b _ _=>Ct a b) (Hn l h) (gA Cs BL ss) (p.trans (fL ss leS).symm)
theorem Pz:∀{vs:List aa} {xs:List Str},iG vs xs->Vals (xs.map V.str) vs
 |_,_,.nil=>.nil
 |_,_,.cons x t h=>.cons ⟨t,rfl⟩ (Pz h)
section
variable{X:Cx}{G:Bg}{pins:List (Addr×Obj)}{σ:St}{H:Hp}{s:ab}
theorem Cu{H:Hp}:∀xs:List Str,pE G H (xs.map D.str) (xs.map V.str)
 |[]=>qf
 |x::xs=>qr (uJ x) (Cu xs)
end
end L4
namespace L4
open PySem PySem.Spec PySem.Calls PyProof.Rows PySem.W L2 L3
structure Sto(c:Nat->Nat->Bool)(n:Nat):Prop where
 tr:∀i j k,i<n->j<n->k<n->c i j=true->c j k=true->c i k=true
 tot:∀i j,i<n->j<n->i≠j->c i j=false->c j i=true
section
variable{X:Cx}{G:Bg}{pins:List (Addr×Obj)}{σ:St}{H:Hp}{s:ab}
def VT(K:ak)(H:Hp)(y:V)(k:List Str):Prop:=∃a p q,y=.ref a/\k=[p,q]/\SqT K H a [.str p,.str q]
end
def OT:D->Option (List Str)
 |.tup [.str p,.str q]=>some [p,q]
 |_=>none
def A7:List D->Option (List (List Str))
 |[]=>some []
 |d::ds=>match OT d,A7 ds with
  |some k,some ks=>some (k::ks)
  |_,_=>none
section
variable{X:Cx}{G:Bg}{H:Hp}
theorem L7{d:D}{v:V}{k:List Str}(r:Rep G H d v)(e:OT d=some k):VT G.K H v k:=by
 unfold OT at e;split at e
 ·rename_i p q;cases e;unfold Rep at r;obtain⟨a,xs,rfl,h1,h2⟩:=r;unfold pE at h2;obtain⟨v1,r1,rfl,q1,q2⟩:=h2;unfold pE at q2;obtain⟨v2,r2,rfl,q3,q4⟩:=q2;unfold pE at q4;unfold Rep at q1 q3;subst q4 q1 q3;exact⟨a,p,q,rfl,rfl,h1⟩
 ·cases e
end
end L4
namespace L4
open PySem PySem.Spec PyProof.Rows L2 L3
structure Bz where
 P:ar
 w:aq
 mg:Str->Option aa
 base:Heap
 G:Bg
structure ZE(X:Cx)(B:Bz)(e:Expr)(f:FE):Prop where p:PE X e (tF B.G f)
structure ZN(X:Cx)(B:Bz)(e:Expr)(f:FA):Prop where p:PE X e (tFN B.G f)
structure ZT(X:Cx)(B:Bz)(e:Expr)(f:FT):Prop where p:PT X e (tFT B.G f)
structure ZW(X:Cx)(B:Bz)(e:Expr)(f:FT):Prop where p:PW X e (tFT B.G f)
structure ZF(X:Cx)(B:Bz)(e:List Expr)(f:FT):Prop where p:PIf X e (tFT B.G f)
structure ZA(X:Cx)(B:Bz)(e:List Expr)(f:FA):Prop where p:PA X e (tFA B.G f)
structure ZS(X:Cx)(B:Bz)(e:Stmt)(f:FS):Prop where p:PS X e (tFS B.G f)
structure ZB(X:Cx)(B:Bz)(e:List Stmt)(f:FS):Prop where p:PSs X e (tFS B.G f)
structure ZI(X:Cx)(B:Bz)(tg e:Expr)(f:FA):Prop where p:PI X tg e (tFI B.G f)
structure ZO(X:Cx)(B:Bz)(e:Option Expr)(f:FO):Prop where p:PO X e (tFO B.G f)
structure ZG(X:Cx)(B:Bz)(e:Expr)(n:Nat)(f:FG):Prop where p:PG X e (tFG B.G n f)
structure ZH(X:Cx)(B:Bz)(e:List Expr)(n:Nat)(f:List D->List Sl->Option (List Sl)):Prop where p:PGs X e (JJ B.G n f)
structure ZK(X:Cx)(e:Option Expr)(i:Option Int):Prop where p:PO X e (tO i)
structure ZV(X:Cx)(e:Expr)(i:Nat):Prop where p:PE X e (wy i)
abbrev Gz(X:Cx)(x:Str):Prop:=X.env.kindOf x=some .globalImplicit
abbrev Dz(x:Str):Prop:=(x==("__debug__" : Str))=false
abbrev Nz(x:Str):Prop:=(decide (x≠"__name__")&&!(x==("__debug__" : Str)))=true
abbrev Sz(X:Cx)(e:Expr)(es:List Expr):Prop:=aw (e::es) X.env=(false,eval e X.env)::aw es X.env
abbrev S1(X:Cx)(e:Expr):Prop:=aw [e] X.env=[(false,eval e X.env)]
abbrev Lz(X:Cx)(pos:Pos)(es:List Expr):Prop:=(ba pos (aw es X.env)).any (·.1)=false
abbrev Wz(X:Cx)(e o:Expr)(pos:Pos):Prop:=cy e (some o) pos.line X.env=pure false
abbrev Az(X:Cx)(o:Expr)(m:Str):Prop:=df o m X.env (eval o X.env)=eval o X.env
abbrev Ez(p pos:Pos):Prop:=(p.endLine==pos.line)=true
abbrev Iz(e:Expr):Prop:=(λo i=>subscripted e false o i)=λo i=>operate [o,i] (getItem o i)
abbrev Fz(X:Cx)(e:Expr):Prop:=(λx=>fM e X.env x)=λx=>pure x
class Cz(X:Cx)(B:outParam Bz)(k:outParam Nat):Prop where
 P:X.prog=B.P
 w:X.w=B.w
 K:X.K=B.G.K
 mg:X.mg=B.mg
 b:X.base=B.base
 c:X.calm=true
 r:rG k X.A
class Yb(B:Bz):Prop where y:Yw B.P B.w B.mg B.base B.G
class Df(B:Bz)(j:outParam Nat)(x:Str)(sp:Sp):Prop where p:∃ps,y3 B.P B.w B.G.K B.mg B.base j x ps sp
class Kf(B:Bz)(j:outParam Nat)(x:Str)(c:Nat)(g:List D->Option (List Str×List D))(dds:List D):Prop where
 p:∃ps,EN B.G B.P B.w B.mg B.base j x c ps (dds.map vD) g
 f:dds.all sq=true
class Mf(B:Bz)(j:outParam Nat)(m:Str)(g:Nat->Option (List D->Option D)):Prop where p:∀c h,g c=some h->Ay B.G B.P B.w B.mg B.base j m c h
class Ff(B:Bz)(ok:Nat->Bool)(f:Str):Prop where p:∀c,ok c=true->Cls B.G.K (B.G.ca c)/\uX B.G.K (B.G.ca c) f
class Af(B:Bz)(c:Nat)(xs:outParam (List Str)):Prop where p:CF B.G.K (B.G.ca c) xs
class Nb(B:Bz)(x:Str):Prop where p:B.mg x=none
class Co(B:Bz)(x:Str)(d:D):Prop where p:yJ B.G B.mg x d
class Ic(B:Bz)(x:Str)(t:Ty->Option Bool):Prop where p:∃c,Ck B.G c t/\B.mg x=some (.ref (B.G.ca c))
class Ij(B:Bz)(n:Nat):Prop where p:∀j k,j<n->k<n->B.G.ca j=B.G.ca k->j=k
class OpC(op:il)(g:D->D->Option D):Prop where p:∀(X:Cx) (G:Bg),∃r,OpR X (bO op) r/\OpD G r g
instance in1:OpC .Mod ua:=⟨λ_ _=>⟨_,Qn,Q0⟩⟩
instance in2:OpC .FloorDiv yY:=⟨λ_ _=>⟨_,Nt,Q1⟩⟩
instance in3:OpC .Mult sZ:=⟨λ_ _=>⟨_,Qm,QZ⟩⟩
instance in4:OpC .Sub x8:=⟨λ_ _=>⟨_,Ql,QY⟩⟩
instance in5:OpC .Pow Li:=⟨λ_ _=>⟨_,Qo,Q2⟩⟩
instance in6:OpC .Add qO:=⟨λ_ _=>⟨_,Qk,QX⟩⟩
instance in7:OpC .Add ya:=⟨λ_ _=>⟨_,GF,Oo⟩⟩
instance in8:OpC .Mult Cj:=⟨λ_ _=>⟨_,GZ,OO⟩⟩
class CmC(op:eE)(g:D->D->Option D):Prop where p:∀(X:Cx) (G:Bg),X.K=G.K->X.A.units+64<cLine->∃r,OpR X (aV op) r/\OpD G r g
instance in9:CmC .Eq (dEq false):=⟨λ_ _ h u=>⟨_,Q7 u h,UR⟩⟩
instance in10:CmC .NotEq (dEq true):=⟨λ_ _ h u=>⟨_,Q8 u h,US⟩⟩
instance in11:CmC .In (dIn false):=⟨λ_ _ h _=>⟨_,Q9 h,Pu⟩⟩
instance in12:CmC .NotIn (dIn true):=⟨λ_ _ h _=>⟨_,JQ h,Pu⟩⟩
instance in13:CmC .Is zQ:=⟨λ_ _ _ _=>⟨_,Qp,Q4⟩⟩
instance in14:CmC .IsNot uk:=⟨λ_ _ _ _=>⟨_,Nu,Oq⟩⟩
instance in16:CmC .Lt Bx:=⟨λ_ _ _ _=>⟨_,Uj,UN⟩⟩
instance in17:CmC .LtE va:=⟨λ_ _ _ _=>⟨_,Uk,UO⟩⟩
instance in18:CmC .Gt Du:=⟨λ_ _ _ _=>⟨_,Ul,UP⟩⟩
instance in19:CmC .GtE QW:=⟨λ_ _ _ _=>⟨_,Um,UQ⟩⟩
instance in20:CmC .LtE Lj:=⟨λ_ _ _ _=>⟨_,JG,Q3⟩⟩
class B1(x:Str)(g:D->Option D):Prop where p:∀(X:Cx) (G:Bg),X.K=G.K->X.calm=true->∃(id:String) (r:List V->Hp->VK->Prop),rY X (.builtin id) r/\Cd G r g/\cJ x=some (.builtin id)
instance in21:B1 "len" qR:=⟨λ_ _ h _=>⟨_,_,JS h,Rb,mi⟩⟩
instance in22:B1 "all" uy:=⟨λ_ _ h c=>⟨_,_,JT c h,Rf,boot_all⟩⟩
instance in23:B1 "any" Ci:=⟨λ_ _ h c=>⟨_,_,JY c h,Rk,boot_any⟩⟩
class KtC(x:Str)(T:outParam String):Prop where p:(∀(X:Cx) (G:Bg) y b,qU T y=some b->cj X.K (y.val G) (.type T)=some b)/\cJ x=some (.type T)
instance in24:KtC "str" "str" := ⟨λ_ _=>Oy,Pv.boot_str⟩
instance in25:KtC "int" "int" := ⟨λ_ _=>OM,m6⟩
instance in26:KtC "bool" "bool" := ⟨λ_ _=>LV,Pv.boot_bool⟩
instance in27:KtC "list" "list" := ⟨λ_ _=>Lw,mN⟩
instance in28:KtC "tuple" "tuple" := ⟨λ_ _=>kit_tuple,Pv.boot_tuple⟩
theorem PB{G:Bg}{H:Hp}:∀{dds:List D},dds.all sq=true->pE G H dds (dds.map vD)
 |[],_=>qf
 |d::ds,h=>by rw[fo,aF]at h;exact qr (zP h.1 H) (PB h.2)
theorem eqI{α:Sort u}{a b:α}(h:a=b):a=b:=h
def sees(X:Cx)(i:Nat)(x:Str):Bool:=decide (X.N[i]?=some x)&&(match X.env.scope.names.lookup x with|some .local=>true|some .cell=>true|some .free=>true|_=>false)&&!(x==("__debug__" : Str))&&!(x==("__classdict__" : Str))
def sets(X:Cx)(i:Nat)(x:Str):Bool:=decide X.N.Nodup&&decide (X.N[i]?=some x)&&(match X.env.scope.names.lookup x with|some .local=>true|some .cell=>X.fn x|_=>false)
variable{ft fu:FT}{id T:String}{r:List V->Hp->VK->Prop}{y:Int}
section
variable{X:Cx}{B:Bz}{k j i n c0:Nat}{x m:Str}{e e' o tg it:Expr}{es:List Expr}{p p2 p3 pos apos:Pos}{f f' f2:FE}{a:FA}{g:D->D->Option D}
theorem pvI(h:sees X i x=true):PE X (.Name x p) (wy i):=by
 unfold sees at h;simp only[aF,bw,eT]at h;obtain⟨⟨⟨h1,h2⟩,h3⟩,h4⟩:=h;refine pv i h1 ?_ h3 h4;unfold Vis;split at h2
 ·rename_i e;exact .inl e
 ·rename_i e;exact .inr (.inl e)
 ·rename_i e;exact .inr (.inr e)
 ·cases h2
theorem U3(h:sees X i x=true):ZE X B (.Name x p) (cV i):=⟨G0 (pvI h)⟩
theorem RB(h:sees X i x=true):ZE X B (.Name x p) (cFz i):=⟨UK (pvI h)⟩
theorem OU(h:sees X i x=true):ZN X B (.Name x p) (Ds i):=⟨Oi (pvI h)⟩
theorem EV(h:sets X i x=true):X.N.Nodup/\X.N[i]?=some x/\L2.Loc X.env.scope x/\(X.fn x=true\/X.env.scope.names.lookup x=some .local):=by
 unfold sets at h;simp only[aF,bw]at h;obtain⟨⟨h1,h2⟩,h3⟩:=h;unfold L2.Loc;split at h3
 ·rename_i e;exact⟨h1,h2,.inl e,.inr e⟩
 ·rename_i e;exact⟨h1,h2,.inr e,.inl h3⟩
 ·cases h3
theorem pgI(h:sets X i x=true):PG X (.Name x p) (vE i):=by obtain⟨h1,h2,h3,h4⟩:=EV h;exact HQ h1 h2 h3 h4
theorem RD(h:sets X i x=true)(hi:Nat.blt i n=true):ZG X B (.Name x p) n (gN i):=⟨K7 n (pgI h) (Nat.blt_eq.mp hi)⟩
theorem stW{te:TE}(h:sets X i x=true)(he:PE X e te)(hs:Wz X e (.Name x p) pos):PS X (.Assign [.Name x p] e pos) (zf te (vE i)):=by obtain⟨h1,h2,h3,h4⟩:=EV h;exact Qe h1 h2 h3 he hs h4
theorem RE(h:sets X i x=true)(he:ZE X B e f)(hs:Wz X e (.Name x p) pos):ZS X B (.Assign [.Name x p] e pos) (p6 i f):=⟨Iq (stW h he.p hs)⟩
theorem RG(h:sets X i x=true)(he:ZN X B e a)(hs:Wz X e (.Name x p) pos):ZS X B (.Assign [.Name x p] e pos) (qT i a):=⟨FJ (stW h he.p hs)⟩
theorem RH(h:sets X i x=true)(hs:Wz X (.Dict [] [] p2) (.Name x p) pos):ZS X B (.Assign [.Name x p] (.Dict [] [] p2) pos) (DY i):=⟨LC (stW h Fs hs)⟩
theorem RI{op:il}[O:OpC op g](ha:ZE X B e f)(hb:ZE X B e' f'):ZE X B (.BinOp e op e' pos) (c2 g f f'):=by obtain⟨r,h1,h2⟩:=O.p X B.G;exact⟨UC h1 h2 ha.p hb.p⟩
theorem RJ [C:Cz X B k](ha:ZE X B e f)(hb:ZE X B e' f')(hs:Iz e'):ZE X B (.Subscript e e' pos) (c2 dIx f f'):=⟨UD (VQ C.K) UT ha.p hb.p λo i=>congrFun (congrFun hs o) i⟩
theorem OV [C:Cz X B k](h:sees X i x=true)(hb:ZE X B e' f')(hs:Iz e'):ZE X B (.Subscript (.Name x p) e' pos) (EK i f'):=⟨QU (Pn (KW B.G.K C.K) (pvI h) hb.p λo i=>congrFun (congrFun hs o) i)⟩
theorem RK [C:Cz X B k](ha:ZE X B e f)(hb:ZE X B e' f')(hs:Iz e'):ZE X B (.Subscript e e' pos) (c2 y4 f f'):=⟨OB (Ik C.r) ha.p hb.p λo i=>congrFun (congrFun hs o) i⟩
section
variable{op op':eE}{g':D->D->Option D}
theorem RN [O:CmC op g][C:Cz X B k](ha:ZE X B e f)(hb:ZE X B e' f')(hm:dZ op e'=false):ZE X B (.Compare e [op] [e'] pos) (c2 g f f'):=by obtain⟨r,h1,h2⟩:=O.p X B.G C.K C.r.units;exact⟨QL h1 h2 ha.p hb.p hm⟩
theorem RO [O:CmC op g][C:Cz X B k](ha:ZE X B e f)(hb:ZE X B e' f')(hm:dZ op e'=false):ZT X B (.Compare e [op] [e'] pos) (cT (c2 g f f')):=by obtain⟨r,h1,h2⟩:=O.p X B.G C.K C.r.units;exact⟨NU h1 h2 ha.p hb.p hm⟩
theorem RP [O:CmC op g][O':CmC op' g'][C:Cz X B k](ha:ZE X B e f)(hb:ZE X B e' f')(hc:ZE X B o f2)(hm:lastMarks [op,op'] [e',o]=false):ZE X B (.Compare e [op,op'] [e',o] pos) (sQ g g' f f' f2):=by obtain⟨r,h1,h2⟩:=O.p X B.G C.K C.r.units;obtain⟨r',h3,h4⟩:=O'.p X B.G C.K C.r.units;exact⟨Lq h1 h3 h2 h4 ha.p hb.p hc.p hm⟩
theorem RQ [O:CmC op g][O':CmC op' g'][C:Cz X B k](ha:ZE X B e f)(hb:ZE X B e' f')(hc:ZE X B o f2)(hm:lastMarks [op,op'] [e',o]=false):ZT X B (.Compare e [op,op'] [e',o] pos) (cT (sQ g g' f f' f2)):=by obtain⟨r,h1,h2⟩:=O.p X B.G C.K C.r.units;obtain⟨r',h3,h4⟩:=O'.p X B.G C.K C.r.units;exact⟨JU h1 h3 h2 h4 ha.p hb.p hc.p hm⟩
end
theorem RR(h:ZE X B e f)(he:(λwhole=>isTrue e X.env whole)=λwhole=>(do let v<-whole;standAt e.pos;holding [v] (truthy v))):ZT X B e (cT f):=⟨NV h.p λw=>congrFun he w⟩
theorem RT(ha:ZT X B e ft)(hb:ZW X B (.BoolOp .Or (e'::es) pos) fu):ZT X B (.BoolOp .Or (e::e'::es) pos) (tL ft fu):=⟨PW.pt (K1 ha.p hb.p)⟩
theorem RU(ha:ZT X B e ft)(hb:ZW X B (.BoolOp .And (e'::es) pos) fu):ZT X B (.BoolOp .And (e::e'::es) pos) (tZ ft fu):=⟨PW.pt (NY ha.p hb.p)⟩
theorem RV{d:D}[C:Cz X B k][Q:Co B x d](hg:Gz X x)(hd:Dz x):ZE X B (.Name x pos) (cC d):=⟨Lu (C.mg▸Q.p) hg hd⟩
theorem RW{ok:Nat->Bool}[C:Cz X B k][Q:Ff B ok m](he:ZE X B e f)(hb:Az X e m):ZE X B (.Attribute e m pos) (c1 (pG ok m) f):=⟨La he.p (C.K▸Q.p) hb⟩
section
variable(hg:Gz X x)(hd:Dz x)(hs:Sz X e es)(hl:Lz X pos es)
include hg hd
theorem dz{sp:Sp}[C:Cz X B k][Q:Df B j x sp]:∃ps,y3 X.prog X.w X.K X.mg X.base j x ps sp:=by rw[C.P,C.w,C.K,C.mg,C.b];exact Q.p
theorem RX{g:List D->Option (List D)}[C:Cz X B k][Q:Df B j x (spN B.G g)](hj:dO j k=true):ZN X B (.Call (.Name x p) [] [] pos) (qh g qe):=by obtain⟨ps,q⟩:=dz hg hd (X:=X) (Q:=Q);exact⟨Lr q (C.r.mono (dM.mp hj)) hg hd⟩
include hs hl
theorem RY{g:List D->Option D}[C:Cz X B k][Q:Df B j x (spF B.G g)](ha:ZA X B (e::es) a)(hj:dO j k=true):ZE X B (.Call (.Name x p) (e::es) [] pos) (pC g a):=by obtain⟨ps,q⟩:=dz hg hd (X:=X) (Q:=Q);exact⟨Rh q (C.r.mono (dM.mp hj)) ha.p hg hd hs hl⟩
theorem RZ{g:List D->Option (List D)}[C:Cz X B k][Q:Df B j x (spN B.G g)](ha:ZA X B (e::es) a)(hj:dO j k=true):ZN X B (.Call (.Name x p) (e::es) [] pos) (qh g a):=by obtain⟨ps,q⟩:=dz hg hd (X:=X) (Q:=Q);exact⟨Ou q (C.r.mono (dM.mp hj)) ha.p hg hd hs hl⟩
theorem R0{g:List D->List D->Option (D×List D)}[C:Cz X B k][Q:Df B j x (spM B.G g)](hv:ZV X e i)(ha:ZA X B es a)(hj:dO j k=true):ZE X B (.Call (.Name x p) (e::es) [] pos) (p8 g i a):=by obtain⟨ps,q⟩:=dz hg hd (X:=X) (Q:=Q);exact⟨Ov q (C.r.mono (dM.mp hj)) hv.p ha.p hg hd hs hl⟩
theorem R7{g:List D->Option (List Str×List D)}{dds:List D}[C:Cz X B k][Q:Kf B j x c0 g dds](ha:ZA X B (e::es) a)(hj:dO (j+1) k=true):ZE X B (.Call (.Name x p) (e::es) [] pos) (pY c0 (λds=>g (ds++dds)) a):=by obtain⟨ps,q⟩:=Q.p;exact⟨Ow (by rw[C.P,C.w,C.mg,C.b];exact q) (λH=>PB Q.f) (C.r.mono (dM.mp hj)) ha.p C.K hg hd hs hl⟩
end
theorem mz{g:Nat->Option (List D->Option D)}[C:Cz X B k][Q:Mf B j m g]:∀c h,g c=some h->Ay B.G X.prog X.w X.mg X.base j m c h:=by rw[C.P,C.w,C.mg,C.b];exact Q.p
theorem R8{g:Nat->Option (List D->Option D)}{pl:Sem Bool}[C:Cz X B k][Q:Mf B j m g](ho:ZE X B o f)(hj:dO j k=true)
  (ht:eval (.Call (.Attribute o m apos) [] [] pos) X.env=(do
   let ov<-eval o X.env
   standAt apos.atName
   let (f,first)<-holding [ov] (getMethod ov m pl)
   callWith pos f first (ba pos (aw [] X.env)) (backToKw pos (cM [] X.env)))):ZE X B (.Call (.Attribute o m apos) [] [] pos) (qB g m f qe):=⟨G4 mz (C.r.mono (dM.mp hj)) ho.p C.K ht⟩
theorem R9{g:Nat->Option (List D->Option D)}{pl:Sem Bool}[C:Cz X B k][Q:Mf B j m g](ho:ZE X B o f)(ha:ZA X B (e::es) a)(hj:dO j k=true)(hs:Sz X e es)(hl:Lz X pos es)
  (ht:eval (.Call (.Attribute o m apos) (e::es) [] pos) X.env=(do
   let ov<-eval o X.env
   standAt apos.atName
   let (f,first)<-holding [ov] (getMethod ov m pl)
   callWith pos f first (ba pos (aw (e::es) X.env)) (backToKw pos (cM [] X.env)))):ZE X B (.Call (.Attribute o m apos) (e::es) [] pos) (qB g m f a):=⟨JV mz (C.r.mono (dM.mp hj)) ho.p ha.p C.K hs hl ht⟩
section
variable(hg:Gz X x)(hd:Nz x)(hs:S1 X e)
include hg hd hs
theorem cbI{t:TA}[C:Cz X B k][N:Nb B x](hc:rY X (.builtin id) r)(hv:cJ x=some (.builtin id))(ha:PA X [e] t):PE X (.Call (.Name x p) [e] [] pos) (tCB r t):=by simp only[aF,bw,eT]at hd;exact zE hc hg (C.mg▸N.p) hv ha hd.1 hd.2 hs rfl
theorem ctI{t:TA}[C:Cz X B k][N:Nb B x](hc:rY X (.type T) r)(hv:cJ x=some (.type T))(ha:PA X [e] t):PE X (.Call (.Name x p) [e] [] pos) (tCB r t):=by simp only[aF,bw,eT]at hd;exact Jy hc hg (C.mg▸N.p) hv ha hd.1 hd.2 hs rfl
theorem Sa{g:D->Option D}[Q:B1 x g][C:Cz X B k][N:Nb B x](ha:ZE X B e f):ZE X B (.Call (.Name x p) [e] [] pos) (c1 g f):=by obtain⟨id,r,h1,h2,h3⟩:=Q.p X B.G C.K C.c;exact⟨Lm h2 (cbI hg hd hs h1 h3 (uZ ha.p wZ hs))⟩
end
section
variable(hs:S1 X e)
include hs
theorem Sb [C:Cz X B k][N:Nb B "list"](hg:Gz X "list")(ha:ZE X B e f):ZN X B (.Call (.Name "list" p) [e] [] pos) (yZ f):=⟨Lo (ctI hg (by decide) hs (G3 C.K) mN (uZ ha.p wZ hs))⟩
theorem Sd [C:Cz X B k][N:Nb B "range"](hg:Gz X "range")(ha:ZE X B e f):ZI X B tg (.Call (.Name "range" p) [e] [] pos) (iR1 f):=⟨G2 (Jr hg (C.mg▸N.p) (uZ ha.p wZ hs) hs)⟩
end
section
variable(hi:Gz X "isinstance")(hg:Gz X x)(hs:aw [e,.Name x p2] X.env=[(false,eval e X.env),(false,eval (.Name x p2) X.env)])(hs':S1 X (.Name x p2))
include hi hg hs hs'
theorem Se [Q:KtC x T][C:Cz X B k][N:Nb B "isinstance"][N':Nb B x](ha:ZE X B e f)(hd:Nz x):ZE X B (.Call (.Name "isinstance" p) [e,.Name x p2] [] pos) (c1 (qC (qU T)) f):=by
 simp only[aF,bw,eT]at hd;refine⟨IA (c:=.b T) (zE (DX (.b T) (Q.p.1 X B.G) Lv C.K) hi (C.mg▸N.p) jd (rj ha.p (rj (Ni (v:=.ty T) hg (C.mg▸N'.p) Q.p.2 rfl hd.1 hd.2) uv ?_) ?_) (by decide) (by decide) ?_ ?_)⟩
 ·exact hs'
 ·rw[hs,hs']
 ·rw[hs,hs']
 ·rw[hs'];rfl
theorem Sf{t:Ty->Option Bool}[Q:Ic B x t][C:Cz X B k][N:Nb B "isinstance"](ha:ZE X B e f)(hd:Dz x):ZE X B (.Call (.Name "isinstance" p) [e,.Name x p2] [] pos) (c1 (qC t) f):=by
 obtain⟨c,q1,q2⟩:=Q.p;refine⟨IA (c:=.c c) (zE (G6 q1 C.K) hi (C.mg▸N.p) jd (rj ha.p (rj (BD (v:=.ref (B.G.ca c)) hg (C.mg▸q2) rfl hd) uv ?_) ?_) (by decide) (by decide) ?_ ?_)⟩
 ·exact hs'
 ·rw[hs,hs']
 ·rw[hs,hs']
 ·rw[hs'];rfl
end
section
variable(hb:Az X o m)(hl:Ez apos pos)(hs:S1 X e)
include hb hl hs
theorem bmI{r:V->List V->Hp->VK->Prop}{to:TE}{t:TA}[C:Cz X B k](pa:ik T)(slot:Slot T m id)(hty:typeOf (.builtin id)=pure (.type "method_descriptor"))(hm:MtR X id r)(ho:PE X o to)(ha:PA X [e] t):PE X (.Call (.Attribute o m apos) [e] [] pos) (tBM B.G.K T r to t):=
 KY B.G.K pa slot hty hm ho ha hb (by rw[hs];rfl) hl hs rfl C.K
end
section
variable(h:sees X i x=true)(hb:Az X (.Name x p) m)(hl:Ez apos pos)(hs:S1 X e)
include h hb hl hs
theorem Sg [C:Cz X B k](hm:m="append")(ha:ZE X B e f):ZE X B (.Call (.Attribute (.Name x p) m apos) [e] [] pos) (vT i f):=by subst hm;exact⟨JN (bmI hb hl hs fP iM kI Ar (pvI h) (uZ ha.p wZ hs))⟩
theorem Sh [C:Cz X B k](hm:m="extend")(ha:ZE X B e f):ZE X B (.Call (.Attribute (.Name x p) m apos) [e] [] pos) (yc i f):=by subst hm;exact⟨G8 (bmI hb hl hs fP gU kJ (C.K▸G7) (pvI h) (rj ha.p uv hs))⟩
end
theorem Si [C:Cz X B k](ha:ZE X B e f)(hb:ZE X B e' f')(h1:Az X e "get")(h2:Ez apos pos)(h3:S1 X e'):ZE X B (.Call (.Attribute e "get" apos) [e'] [] pos) (c2 xJ f f'):=⟨LB (Ik C.r) ha.p hb.p ⟨h1,by rw[h3];rfl,h2,by rw[h3];rfl⟩⟩
theorem Sj{xs:List Str}[C:Cz X B k][Q:Af B c0 xs](hx:xs.contains m=true)(h:sees X i x=true)(hv:ZE X B e f)(hs:Wz X e (.Attribute (.Name x p) m apos) pos):ZS X B (.Assign [.Attribute (.Name x p) m apos] e pos) (qq c0 i m f):=⟨Og (Qr (pvI h) hv.p hs) (by obtain⟨i,_,e⟩:=iI (iA.mp hx);exact C.K▸Q.p.at i (bE.mpr ⟨_,e⟩))⟩
theorem Sk [C:Cz X B k](h:sees X i x=true)(hk:ZE X B e' f')(hv:ZE X B e f)(hs:Wz X e (.Subscript (.Name x p) e' apos) pos):ZS X B (.Assign [.Subscript (.Name x p) e' apos] e pos) (uz i f' f):=⟨LD (NK (Ik C.r) (pvI h) hk.p hv.p hs)⟩
theorem Sm{n:Nat}[Q:Ij B n](h:ZE X B e f):ZE X B e (y6 n f):=⟨OK Q.p h.p⟩
theorem Sn{lo hi:Option Expr}{fl fh:FO}[C:Cz X B k](he:ZE X B e f)(hl:ZO X B lo fl)(hh:ZO X B hi fh):ZN X B (.Subscript e (.Slice lo hi none p) pos) (zk f fl fh):=⟨G5 (Fn (VR C.K) he.p hl.p hh.p)⟩
theorem So:ZK X (some (.Constant (.int y) j pos)) (some y):=⟨Lp⟩
theorem Sq:ZK X none none:=⟨UU⟩
theorem Sr [C:Cz X B k](h:ZE X B e f):ZI X B tg e (iL f):=⟨FP (FB B.G.K h.p C.K)⟩
theorem Ss [C:Cz X B k](h:ZE X B e f):ZI X B tg e (iT f):=⟨Om (NQ B.G.K h.p C.K)⟩
theorem Su(h:ZE X B e f):ZI X B tg e (iD f):=⟨LM (OI h.p)⟩
theorem Sv(h:ZE X B e f):ZI X B tg e (iS f):=⟨OC (QF h.p)⟩
section
variable{gg:FG}{gs:List D->List Sl->Option (List Sl)}
theorem OW:ZH X B [] n vG:=⟨N4 Nl⟩
theorem OX(h1:ZG X B e n gg)(h2:ZH X B es n gs)(hs:(bD (e::es) X.env).map (·.2)=assign e X.env::(bD es X.env).map (·.2)):ZH X B (e::es) n (qD gg gs):=⟨K8 (Kn h1.p h2.p hs)⟩
theorem OY{n' k':Nat}[C:Cz X B k](h:ZH X B es n gs)(hn:(bD es X.env).length=n')(ht:(bD es X.env).findIdx? (·.1)=none):ZG X B (.Tuple es k' pos) n (gT gs n'):=⟨N5 (NR B.G.K C.c h.p hn ht C.K)⟩
end
def tgN:Expr->List Str
 |.Name x _=>[x]
 |.Tuple es _ _=>es.filterMap λe=>match e with|.Name x _=>some x|_=>none
 |_=>[]
def cpN(X:Cx)(tg:Expr)(cap:List Nat):List Str:=tgN tg++cap.map λj=>X.N.getD j ""
instance inCz [C:Cz X B k]{N':List Str}{sc:b8}{cl:List (Str×Addr)}{A:Addr}{fp:List Addr}{s:ab}{H:Hp}:Cz (ra X N' sc cl A fp s H) B k:=⟨C.P,C.w,C.K,C.mg,C.b,C.c,C.r⟩
def Sw(X:Cx)(N':List Str)(sc:b8)(n:Nat)(cap:List Nat):Bool:=decide cap.Nodup&&decide (sc.kind=.function)&&(sc.names.all λy=>y.2 != .cell)&&(sc.names.all λy=>y.2 != .local||sc.names.lookup y.1==some .local)&&(sc.names.all λy=>y.2 != .free||(X.env.kindOf y.1==some .cell||X.env.kindOf y.1==some .free))&&decide (N'.length=n+cap.length)&&decide ((N'.drop n).map some=cap.map λj=>X.N[j]?)&&((N'.drop n).all λx=>sc.names.lookup x==some .free)
section
variable{sc:b8}{cap:List Nat}{ifs:List Expr}{gg:FG}{ft:FT}{s:FA}
 (h0:Sw X (cpN X tg cap) sc n cap=true) (hs:Fz X it) (hi:ZI X B tg it s)
 (h1:∀(cl:List (Str×Addr)) (A:Addr) (fp:List Addr) (s:ab) (H:Hp),ZG (ra X (cpN X tg cap) sc cl A fp s H) B tg n gg)
 (h2:∀(cl:List (Str×Addr)) (A:Addr) (fp:List Addr) (s:ab) (H:Hp),ZF (ra X (cpN X tg cap) sc cl A fp s H) B ifs ft)
 (h3:∀(cl:List (Str×Addr)) (A:Addr) (fp:List Addr) (s:ab) (H:Hp),ZE (ra X (cpN X tg cap) sc cl A fp s H) B e f)
include h0 hs hi h1 h2 h3
theorem Sx [C:Cz X B k]:ZN X B (.ListComp e [⟨tg,it,ifs,0⟩] sc pos) (pH n cap s gg ft f):=by unfold Sw at h0;simp only[aF,bw]at h0;obtain⟨⟨⟨⟨⟨⟨⟨a1,a2⟩,a3⟩,a4⟩,a5⟩,a6⟩,a7⟩,a8⟩:=h0;exact⟨Lg a1 (NP (N':=cpN X tg cap) C.c hi.p (λcl A fp s H=>⟨(h1 cl A fp s H).p,(h2 cl A fp s H).p,(h3 cl A fp s H).p⟩) a2 a3 a4 a5 a6 a7 a8 λx=>congrFun hs x)⟩
theorem cpW [C:Cz X B k](h:sets X i x=true)(hw:cy (.ListComp e [⟨tg,it,ifs,0⟩] sc pos) (some (.Name x p)) apos.line X.env=pure true):PS X (.Assign [.Name x p] (.ListComp e [⟨tg,it,ifs,0⟩] sc pos) apos) (zf (AY (tFI B.G s) (tFG B.G n gg) (tFT B.G ft) (tF B.G f) n cap) (vE i))/\cap.Nodup:=by unfold Sw at h0;simp only[aF,bw]at h0;obtain⟨⟨⟨⟨⟨⟨⟨a1,a2⟩,a3⟩,a4⟩,a5⟩,a6⟩,a7⟩,a8⟩:=h0;obtain⟨b1,b2,b3,b4⟩:=EV h;exact⟨Oz (N':=cpN X tg cap) C.c b1 b2 b3 hi.p (λcl A fp s H=>⟨(h1 cl A fp s H).p,(h2 cl A fp s H).p,(h3 cl A fp s H).p⟩) a2 a3 a4 a5 a6 a7 a8 (λx=>congrFun hs x) hw b4,a1⟩
theorem Sy [C:Cz X B k](h:sets X i x=true)(hw:cy (.ListComp e [⟨tg,it,ifs,0⟩] sc pos) (some (.Name x p)) apos.line X.env=pure true):ZS X B (.Assign [.Name x p] (.ListComp e [⟨tg,it,ifs,0⟩] sc pos) apos) (p6 i (cL (pH n cap s gg ft f))):=by have z:=cpW (k:=k) h0 hs hi h1 h2 h3 h hw;exact⟨Lx z.2 z.1⟩
theorem SA [C:Cz X B k](h:sets X i x=true)(hw:cy (.ListComp e [⟨tg,it,ifs,0⟩] sc pos) (some (.Name x p)) apos.line X.env=pure true):ZS X B (.Assign [.Name x p] (.ListComp e [⟨tg,it,ifs,0⟩] sc pos) apos) (qT i (pH n cap s gg ft f)):=by have z:=cpW (k:=k) h0 hs hi h1 h2 h3 h hw;exact⟨JX z.2 z.1⟩
end
section
variable{st:Stmt}{sts:List Stmt}{fs fs':FS}{ft:FT}{a':FA}{z1:Nat}
theorem U4(ha:ZE X B e f)(hr:ZA X B es a)(hs:Sz X e es):ZA X B (e::es) (aCons f a):=⟨uZ ha.p hr.p hs⟩
theorem U5:ZA X B [] qe:=⟨wZ⟩
theorem SC(h:sees X i x=true):ZV X (.Name x p) i:=⟨pvI h⟩
theorem SD(h:ZN X B e a):ZE X B e (cL a):=⟨QR h.p⟩
theorem U6{y:Str}:ZE X B (.Constant (.str y) j pos) (cC (.str y)):=⟨QJ⟩
theorem U7:ZE X B (.Constant (.int y) j pos) (cC (.int y)):=⟨QI⟩
theorem U8{y:Bool}:ZE X B (.Constant (.bool y) j pos) (cC (.bl y)):=⟨UB⟩
theorem U9:ZE X B (.Constant .none j pos) (cC .non):=⟨QK⟩
theorem IJ(h1:ZS X B st fs)(h2:ZB X B sts fs'):ZB X B (st::sts) (pA fs fs'):=⟨K4 h1.p h2.p⟩
theorem Va(h1:ZS X B st fs):ZB X B [st] fs:=⟨N2 h1.p⟩
theorem Vc:ZB X B [] pQ:=⟨N1⟩
theorem SE(h:ZE X B e f):ZS X B (.Return (some e) pos) (pU f):=⟨N3 h.p⟩
theorem SF(h:ZN X B e a):ZS X B (.Return (some e) pos) (qQ a):=⟨K5 h.p⟩
theorem SG(h:ZE X B e f)(hs:cy e none pos.line X.env=pure false):ZS X B (.Expr e pos) (qb f):=⟨K6 h.p hs⟩
theorem SI(h:ZT X B e ft)(h1:ZB X B sts fs){sts':List Stmt}(h2:ZB X B sts' fs'):ZS X B (.If e sts sts' pos) (sIf ft fs fs'):=⟨QT h.p h1.p h2.p⟩
theorem SJ(h:ZA X B es a):ZN X B (.List es pos) (pN a):=⟨NZ h.p⟩
theorem SK(h:ZA X B es a):ZE X B (.Tuple es z1 pos) (qd a):=⟨QQ h.p⟩
theorem SL(ha:ZE X B e f)(hb:ZE X B e' f'):ZN X B (.BinOp e .Add e' pos) (qS f f'):=⟨Os ha.p hb.p⟩
theorem SM [C:Cz X B k](ha:ZE X B e f)(hb:ZE X B e' f'):ZE X B (.BinOp e .Add e' pos) (A1 f f'):=⟨OD ha.p hb.p C.K⟩
theorem SN(ha:ZE X B e f)(hb:ZE X B (.BoolOp .And (e'::es) pos) f'):ZE X B (.BoolOp .And (e::e'::es) pos) (q8 f f'):=⟨QO ha.p hb.p⟩
theorem SO(ha:ZE X B e f)(hb:ZE X B (.BoolOp .Or (e'::es) pos) f'):ZE X B (.BoolOp .Or (e::e'::es) pos) (cOr f f'):=⟨UF ha.p hb.p⟩
theorem SQ{op}(ha:ZE X B e f):ZE X B (.BoolOp op [e] pos) f:=⟨QN ha.p⟩
theorem SR(ha:ZE X B e f):ZE X B (.UnaryOp .Not e pos) (zg f):=⟨QP ha.p⟩
theorem SU(ha:ZT X B e ft):ZT X B (.UnaryOp .Not e pos) (rO ft):=⟨NW ha.p⟩
theorem SV(h:ZT X B o ft)(ha:ZE X B e f)(hb:ZE X B e' f'):ZE X B (.IfExp o e e' pos) (cIf ft f f'):=⟨UG h.p ha.p hb.p⟩
theorem Vd(h:ZT X B e ft):ZF X B [e] ft:=⟨NO h.p⟩
theorem Ve:ZF X B [] qg:=⟨Lh⟩
theorem SW(h:ZE X B e f):ZE X B e (vb f):=⟨Rg h.p⟩
theorem SX(h:ZT X B e ft):ZT X B e (uo ft):=⟨Ot h.p⟩
theorem SY(h:ZE X B e f):ZO X B (some e) (oAt f):=⟨Ro h.p⟩
theorem SZ:ZO X B none oNo:=⟨Rm⟩
theorem S0(ha:ZT X B e ft)(hb:ZW X B (.BoolOp .Or (e'::es) pos) fu):ZW X B (.BoolOp .Or (e::e'::es) pos) (tL ft fu):=⟨K1 ha.p hb.p⟩
theorem S4(h:ZT X B e ft):ZW X B (.BoolOp .Or [e] pos) ft:=⟨NX h.p⟩
theorem S5(h:ZT X B e ft):ZW X B (.BoolOp .And [e] pos) ft:=⟨K0 h.p⟩
end
theorem S6{body:List Stmt}{s:FA}{gg:FG}{b:FS}[C:Cz X B k](hp:PassesOwn (model X.prog X.w) X.A X.env X.xe)(hn:X.N.length=n)(hi:ZI X B tg it s)(hg:ZG X B tg n gg)(hb:ZB X B body b)(hs:Fz X it):ZS X B (.For tg it body [] pos) (u4 s gg b):=⟨On (Kr hp C.c hi.p hg.p hb.p λx=>congrFun hs x)⟩
end
end L4
namespace L4
open PySem PySem.Spec PyProof.Rows L2 L3
open PySem.W (fnOf)
def nmO(st:Stmt):List Str:=(pP st).names.filterMap λy=>match y.2 with|.local=>some y.1|.cell=>some y.1|_=>none
def psO(st:Stmt):List Str:=(tI st).args.map (·.arg)
def okO(N ps:List Str)(st:Stmt)(np n:Nat):Bool:=decide ((pP st).kind=.function)&&(pP st).isCoroutine==false&&(pP st).isGenerator==false&&decide N.Nodup&&decide (N.take ps.length=ps)&&(ps.all λx=>match (pP st).names.lookup x with|some .local=>true|some .cell=>true|_=>false)&&((pP st).names.all λy=>y.2 != .free)&&decide (ps.length=np)&&decide (N.length=n)
theorem okk{N ps:List Str}{st:Stmt}{np n:Nat}(h:okO N ps st np n=true):rR N ps (pP st)/\ps.length=np/\N.length=n:=by
 unfold okO at h;simp only[aF,bw,beq_iff_eq]at h;obtain⟨⟨⟨⟨⟨⟨⟨⟨h1,h2⟩,h3⟩,h4⟩,h5⟩,h6⟩,h7⟩,h8⟩,h9⟩:=h;refine⟨⟨h1,h2,h3,h4,h5,λx hx=>?_,λy hy e=>?_⟩,h8,h9⟩
 ·have z:=aE.mp h6 x hx;split at z
  ·rename_i e;exact .inl e
  ·rename_i e;exact .inr e
  ·cases z
 ·have z:=aE.mp h7 y hy;rw[e]at z;exact ao z (by decide)
section
variable{B:Bz}[Y:Yb B]{x m qual:Str}{st s0:Stmt}{l:List Stmt}{k c np n:Nat}{b:FS}{p:Str}{ps xs:List Str}{N:List Str}
abbrev Bdz(B:Bz)(N:List Str)(qual:Str)(st:Stmt)(l:List Stmt)(k:Nat)(b:FS):Prop:=∀{f:Addr} {cdv:aa} {A:av} {outer:List Env} {s:ab} {H:Hp} {E:XK} [Cz (A0 B.P B.w B.G.K B.mg B.base N qual st f cdv A outer s H E) B k],ZB (A0 B.P B.w B.G.K B.mg B.base N qual st f cdv A outer s H E) B l b
omit Y in
theorem Bdz.ok(h:Bdz B N qual st l k b)(hl:qo st=l):Bdy B.P B.w B.G.K B.mg B.base N qual st k (tFS B.G b):=λf cdv A outer s H E hr=>by subst hl;exact(@h f cdv A outer s H E ⟨rfl,rfl,rfl,rfl,rfl,rfl,hr⟩).p
theorem gF4{g:List D->Option D}(hg:g=fnD np n b)(q:GD B.G.K x st)(hl:qo st=s0::l)(body:Bdz B (nmO st) x st (s0::l) k b)(S:okO (nmO st) (psO st) st np n=true:=by kernel_rfl)(bd:Bds x x st (psO st):=by (repeat intro _);rfl):Df B (k+1) x (spF B.G g):=
 ⟨_,gF hg Y.y q (okk S).1 (body.ok hl) (okk S).2.1 (okk S).2.2 bd⟩
theorem gF5(N:List Str){g:List D->Option D}(hg:g=fnD np n b)(q:GD B.G.K x st)(hl:qo st=s0::l)(body:Bdz B N x st (s0::l) k b)(S:okO N (psO st) st np n=true:=by kernel_rfl)(bd:Bds x x st (psO st):=by (repeat intro _);rfl):Df B (k+1) x (spF B.G g):=
 ⟨_,gF hg Y.y q (okk S).1 (body.ok hl) (okk S).2.1 (okk S).2.2 bd⟩
theorem gN4{g:List D->Option (List D)}(hg:g=fnN np n b)(q:GD B.G.K x st)(hl:qo st=s0::l)(body:Bdz B (nmO st) x st (s0::l) k b)(S:okO (nmO st) (psO st) st np n=true:=by kernel_rfl)(bd:Bds x x st (psO st):=by (repeat intro _);rfl):Df B (k+1) x (spN B.G g):=
 ⟨_,gN' hg Y.y q (okk S).1 (body.ok hl) (okk S).2.1 (okk S).2.2 bd⟩
theorem gM4{g:List D->List D->Option (D×List D)}(hg:g=fnM np n b)(q:GD B.G.K x st)(hl:qo st=s0::l)(hp:psO st=p::ps)(body:Bdz B (nmO st) x st (s0::l) k b)(S:okO (nmO st) (p::ps) st (np+1) n=true:=by kernel_rfl)(bd:Bds x x st (p::ps):=by (repeat intro _);rfl):Df B (k+1) x (spM B.G g):=
 ⟨_,gM hg Y.y q (okk S).1 (body.ok hl) (fZ (okk S).2.1) (okk S).2.2 bd⟩
theorem hF4{g:List D->Option D}(C:CF B.G.K (B.G.ca c) xs)(hg:g=fnD np n b)(q:GM B.G.K (B.G.ca c) m qual st)(hl:qo st=s0::l)(body:Bdz B (nmO st) qual st (s0::l) k b)(S:okO (nmO st) (psO st) st np n=true:=by kernel_rfl)(bd:Bds m qual st (psO st):=by (repeat intro _);rfl):Ay B.G B.P B.w B.mg B.base (k+1) m c g:=by obtain⟨f,fd,a,i,F⟩:=q;exact⟨f,fd,_,C.ci.cl,⟨a,i,F.kp⟩,bd.ok F,Ls hg (okk S).2.1 (okk S).2.2 F (okk S).1 (body.ok hl f)⟩
theorem gI4{g:List D->Option (List Str×List D)}(C:CF B.G.K (B.G.ca c) xs)(a:gn B.G.K aK x=some (some (.ref (B.G.ca c))))(hg:g=fnI c np n b)(q:GM B.G.K (B.G.ca c) "__init__" qual st)(hl:qo st=s0::l)(hp:psO st=p::ps)(body:Bdz B (nmO st) qual st (s0::l) k b)(S:okO (nmO st) (p::ps) st (np+1) n=true:=by kernel_rfl)(bd:Bds "__init__" qual st (p::ps):=by (repeat intro _);rfl):Kf B (k+1) x c g []:=
 ⟨⟨_,gI hg Y.y C a q (okk S).1 (body.ok hl) (fZ (okk S).2.1) (okk S).2.2 bd⟩,rfl⟩
theorem gJ4{g:List D->Option (List Str×List D)}{dds:List D}(C:CF B.G.K (B.G.ca c) xs)(a:gn B.G.K aK x=some (some (.ref (B.G.ca c))))(hg:g=fnI c np n b)(q:GJ B.G.K (B.G.ca c) qual st (dds.map vD))(hl:qo st=s0::l)(hp:psO st=p::ps)(body:Bdz B (nmO st) qual st (s0::l) k b)(j:Nat)(S:okO (nmO st) (p::ps) st (np+1) n=true:=by kernel_rfl)(hf:dds.all sq=true:=by rfl)
  (bd:Hm (dds.map vD).length λdl=>Hm ((p::ps).length - ((dds.map vD).drop j).length) λus=>∀(T:Addr) (kV doc pm:aa) (an:Option Addr) (cdv ct:aa),∃k,bindArgs (fnOf "__init__" qual (tI st) (qo st) (pP st) (.ref T) kV doc pm an cdv ct) ⟨us,[]⟩=seqItems? (.ref T)>>=k/\k (some dl.toArray)=pure ((p::ps).zip (us++dl.drop j)):=by (repeat intro _);exact⟨_,rfl,rfl⟩):Kf B (k+1) x c g (dds.drop j):=
 ⟨⟨_,by rw[jm];exact gJ hg Y.y C a q (okk S).1 (body.ok hl) j (fZ (okk S).2.1) (okk S).2.2 bd⟩,by
  rw[aE]at hf ⊢;exact λd h=>hf d (kj h)⟩
theorem yg(n:Nat)(ca:Nat->Addr):∀k,k<n->((aL n).map ca).getD k 0=ca k:=λk h=>by rw[gr,bb,kx h];rfl
theorem VU{n:Nat}{ca:Nat->Addr}(h:decide ((aL n).map ca).Nodup=true):∀j k,j<n->k<n->ca j=ca k->j=k:=λj k hj hk e=>by rw[<-yg n ca j hj,<- yg n ca k hk]at e;exact RA (bx h) (by simpa using hj) (by simpa using hk) e
def xh:Nat->(Nat->Prop)->Prop
 |0,_=>True
 |n+1,Q=>Q 0/\xh n λk=>Q (k+1)
theorem xh.at:∀{n:Nat} {Q:Nat->Prop},xh n Q->∀k,k<n->Q k
 |_+1,_,h,0,_=>h.1
 |_+1,_,h,k+1,hk=>xh.at (Q:=λk=>_) h.2 k (Nat.lt_of_succ_lt_succ hk)
end
section
variable{X:Cx}{B:Bz}{k j i n:Nat}{x y:Str}{e e' tg:Expr}{es:List Expr}{p p2 p3 pos apos:Pos}{f f':FE}{a:FA}{st:Stmt}{sts:List Stmt}{fs fs':FS}{ft:FT}
theorem S7{gg:FG}(hn:X.N.length=n)(he:ZE X B e f)(hg:ZG X B tg n gg)(hs:swapsWithSole [tg] e pos.line X.env=pure false)(hw:swappedStores [tg] e X.env=pure none)(h1:(bD [tg] X.env).map (·.2)=[assign tg X.env]):ZS X B (.Assign [tg] e pos) (Dr f gg):=⟨N6 (Ko he.p hg.p hs hw h1)⟩
theorem S8 [C:Cz X B k][N:Nb B "int"](hg:Gz X "int")(hs:S1 X e)(ha:ZE X B e f):ZE X B (.Call (.Name "int" p) [e] [] pos) (c1 zj f):=⟨Lm Re (ctI hg (by decide) hs Jt m6 (uZ ha.p wZ hs))⟩
end
end L4
namespace L4
open PySem PySem.Spec PyProof.Rows L2 L3
def Hr(f:FE)(lo hi:Option Int):FE:=λρ=>match f ρ with
 |some (.tup ds,ρ1)=>if HT.sIx ds.length 0 lo=0/\HT.sIx ds.length ds.length hi=ds.length then none else some (.tup (cutD ds lo hi),ρ1)
 |_=>none
section
variable{X:Cx}{G:Bg}
theorem J5{e:Expr}{f:FE}{lo hi:Option Int}(h:PE X e (tSl (Qt G.K) (tF G f) (tO lo) (tO hi))):PE X e (tF G (Hr f lo hi)):=PE.weak h λσ H Q hh=>by
 obtain⟨F,ρ,H0,ds,ρ',R,e,k⟩:=hh;unfold Hr at e;split at e
 ·rename_i xs ρ1 e1;split at e
  ·cases e
  ·rename_i hn;cases e;refine⟨F,ρ,H0,_,_,R,e1,λv H1 H1' s R' r=>?_⟩;unfold Rep at r;obtain⟨a,ys,rfl,h1,h2⟩:=r;rw[pF h2]at hn;exact⟨a,ys,rfl,SqT.mono R'.sub h1,hn,λp hp=>k _ _ _ (s.trans (pX (R'.h0none hp) _)) (R'.newIm hp _) (BF (SqT.of pK) (pE.mono (pX (R'.h0none hp) _) _ _ (FU h2)))⟩
 ·cases e
theorem VV(hK:X.K=G.K:=by rfl):SlR X (Qt G.K):=by rw[<-hK];exact Qu
end
section
variable{X:Cx}{B:Bz}{k:Nat}{e:Expr}{f:FE}{p pos:Pos}
theorem S9{lo hi:Option Expr}{l h:Option Int}[C:Cz X B k](he:ZE X B e f)(hl:ZK X lo l)(hh:ZK X hi h):ZE X B (.Subscript e (.Slice lo hi none p) pos) (Hr f l h):=⟨J5 (Fn (VV C.K) he.p hl.p hh.p)⟩
end
theorem F9{α:Type}[DecidableEq α]:∀{l L:List α},l.Nodup->(∀x∈l,x∈L)->l.length<=L.length
 |[],L,_,_=>bR _
 |a::l,L,nd,h=>by have h1:=h a aP;have nd':=dD.mp nd;have:=F9 (l:=l) (L:=L.erase a) nd'.2 λx hx=>(List.mem_erase_of_ne (λe:x=a=>nd'.1 (by rw[<-e];exact hx))).mpr (h x (aO _ hx));rw[List.length_erase_of_mem h1]at this;have:=List.length_pos_of_mem h1;rw[aB];omega
structure Tb(t:aW)(m n:Nat):Prop where
 mask:t.mask=m
 dm:t.dummies=#[]
 pl:t.place.size=n
variable{i q:Nat}
section
variable{t:aW}{m n:Nat}
theorem Tb.slot(T:Tb t m n)(j:Nat):(∃i,t.slot j=.live i/\t.place[i]?=some j)\/t.slot j=.empty:=by
 unfold SetTable.slot;by_cases h:(t.place[cG t.place j]?==some j)=true
 ·left;simp only[h,if_true];exact⟨_,rfl,eD h⟩
 ·right;rw[lE]at h;rw[T.dm];simp[h,mO]
theorem Tb.free(T:Tb t m n)(h:n<=m):∃r,r<=m/\t.slot r=.empty:=by
 apply jT;intro no;have:(aL (m+1)).length<=t.place.toList.length:=F9 lG λr hr=>by
  rcases T.slot r with ⟨i,_,e⟩|e
  ·rw[<-fI]at e;exact bF e
  ·exact ao ⟨r,by have:=bo.mp hr;omega,e⟩ no
 rw[cb,bh,T.pl]at this;omega
def Emp(t:aW):Nat->dG->Prop
 |0,_=>False
 |f+1,p=>t.slot p.j=.empty\/Emp t f (t.advance p)
theorem Emp.mono:∀{f f':Nat} {p:dG},Emp t f p->f<=f'->Emp t f' p
 |0,_,_,h,_=>h.elim
 |f+1,0,_,_,h=>ao h (by omega)
 |f+1,f'+1,p,h,hl=>h.imp id λh=>h.mono (by omega)
def rs(m i q:Nat):dG:=⟨i,dF m i - i,i,q,none⟩
theorem Ta(m i:Nat):dF m i - i<=9:=by unfold dF;split<;>omega
theorem Emp.run(T:Tb t m n){f:Nat}(h:Emp t f (rs m ((i * 5+1+q / 32) % (m+1)) (q / 32))):∀(k j:Nat),Emp t (f+k+1) ⟨j,k,i,q,none⟩
 |0,j=>.inr (by
   have e:t.advance ⟨j,0,i,q,none⟩=rs m ((i * 5+1+q / 32) % (m+1)) (q / 32):=by unfold i8 SetTable.leap;rw[T.mask];rfl
   rw[e];exact h)
 |k+1,j=>.inr (by
   have e:t.advance ⟨j,k+1,i,q,none⟩=⟨j+1,k,i,q,none⟩:=by unfold i8;rw[ah (jy k)];rfl
   rw[e];exact Emp.run T h k (j+1))
theorem Emp.leap(T:Tb t m n){f:Nat}(h:Emp t f (rs m ((i * 5+1+q / 32) % (m+1)) (q / 32))):Emp t (f+10) (rs m i q):=
 (Emp.run T h (dF m i - i) i).mono (by have:=Ta m i;omega)
def orb(m:Nat):Nat->Nat->List Nat
 |0,_=>[]
 |k+1,i=>i::orb m k ((i * 5+1) % (m+1))
theorem Emp.orb(T:Tb t m n){r:Nat}(hr:t.slot r=.empty):∀(k i:Nat),r∈orb m k i->Emp t (10 * k) (rs m i 0)
 |0,i,h=>by cases h
 |k+1,i,h=>by
  rcases aH.mp h with e|h
  ·exact Emp.mono (f:=1) (.inl (by rw[e]at hr;exact hr)) (by omega)
  ·have:=Emp.leap T (q:=0) (i:=i) (Emp.orb T hr k _ h);exact this.mono (by omega)
theorem IK(hm:m=7\/m=31){r:Nat}(hi:i<=m)(hr:r<=m):r∈orb m (m+1) i:=by
 have h:∀m∈[7,31],((aL (m+1)).all λi=>(aL (m+1)).all λr=>(orb m (m+1) i).contains r)=true:=by decide +kernel
 have:=aE.mp (aE.mp (h m (by rcases hm with rfl|rfl<;>simp)) i (bo.mpr (by omega))) r (bo.mpr (by omega));exact iA.mp this
theorem Emp.all(T:Tb t m n)(hm:m=7\/m=31)(hn:n<=m):∀(k i q:Nat),i<=m->q<32 ^ k->Emp t (10 * (k+(m+1))) (rs m i q)
 |0,i,q,hi,hq=>by
  obtain⟨r,hr,e⟩:=T.free hn;have q0:q=0:=by simpa using hq
  rw[q0,jr];exact Emp.orb T e _ _ (IK hm hi hr)
 |k+1,i,q,hi,hq=>by have:=Emp.leap T (Emp.all T hm hn k ((i * 5+1+q / 32) % (m+1)) (q / 32) (kT (eC _ (jy m))) (by rw[mQ]at hq;omega));exact this.mono (by omega)
theorem Emp.start(T:Tb t m n)(hm:m=7\/m=31)(hn:n<=m)(h:Int):Emp t (10 * (m+14)) (t.probeStart h):=by
 have hb:bQ h<32 ^ 13:=by unfold bQ;omega
 have:=Emp.all T hm hn 13 (bQ h % (m+1)) (bQ h) (kT (eC _ (jy m))) hb;have e:t.probeStart h=rs m (bQ h % (m+1)) (bQ h):=by unfold SetTable.probeStart;rw[T.mask];rfl
 rw[e];exact this.mono (by omega)
theorem L8{p:dG}(h:p.dummy=none):(t.advance p).dummy=none:=by unfold i8;split<;>exact h
theorem L9(T:Tb t m n)(F:Nat->Int)(h:Int):∀(f:Nat) (p:dG),p.dummy=none->Emp t f p->∀g,f<=g->(∃j,t.slot j=.empty/\fQ t F h g p=some (.empty j none))\/
  ∃j i next f',f'<f/\t.slot j=.live i/\t.place[i]?=some j/\F i=h/\fQ t F h g p=some (.candidate j i next)/\next.dummy=none/\Emp t f' next
 |0,p,_,he,g,_=>he.elim
 |f+1,p,hd,he,0,hg=>ao hg (by omega)
 |f+1,p,hd,he,g+1,hg=>by
  unfold fQ;rcases T.slot p.j with ⟨i,e1,e2⟩|e1
  ·have he:Emp t f (t.advance p):=he.resolve_left λe=>by rw[e1]at e;cases e
   rw[e1];dsimp only;by_cases hh:F i=h
   ·right;exact⟨p.j,i,t.advance p,f,cD f,e1,e2,hh,by rw[ah (by rw[hh];simp)],L8 hd,he⟩
   ·rw[aj (by simpa using hh)];rcases L9 T F h f (t.advance p) (L8 hd) he g (by omega)with h1|⟨j,i',nx,f',h1,h2,h3⟩
    ·exact .inl h1
    ·exact .inr ⟨j,i',nx,f',by omega,h2,h3⟩
  ·left;rw[e1];exact⟨p.j,e1,by rw[hd]⟩
end
theorem Tc{t:aW}{F F':Nat->Int}{h:Int}(e:∀i,F i=F' i)(g:Nat)(p:dG):fQ t F h g p=fQ t F' h g p:=by obtain rfl:F=F':=funext e;rfl
section
variable{prog:ar}{w:aq}{A:av}{E:aa->ab->Prop}{s:ab}
theorem Ma{a2:Addr}{k2:List Key}{l:List aa}{Q:Bool->ab->Prop}(h1:∀v∈l,∃k a,v=.ref a/\TK prog w s.heap k a)(h2:TK prog w s.heap k2 a2)(h:Q false s):ag (model prog w) A (searchCouldBeSeen (.ref a2) l) Q E s:=by
 unfold searchCouldBeSeen;refine ae ?_;show ag _ _ (forIn l _ _) _ _ s;refine i4 _ (λrest r s'=>r=(none,())/\s'=s/\∀v∈rest,∃k a,v=.ref a/\TK prog w s.heap k a) _ ?_ ?_ _ _ ⟨rfl,rfl,h1⟩
 ·rintro v rest r s' ⟨rfl,rfl,hall⟩;obtain⟨k,a1,rfl,h1⟩:=hall v aP;have go:∀v∈rest,∃k a,v=Value.ref a/\TK prog w s'.heap k a:=λu hu'=>hall u (aO _ hu');dsimp only;split
  ·exact ai ⟨rfl,rfl,go⟩
  ·refine ae (j7 h2 ?_);refine ae (j7 h1 ?_);refine ae (IF h2 ?_);refine ae (IF h1 ?_);exact ai ⟨rfl,rfl,go⟩
 ·rintro r s' ⟨rfl,rfl,_⟩;exact ai h
structure Els(prog:ar)(w:aq)(h:Heap)(L:List (List Key×Addr))(es:Array (Int×aa)):Prop where
 tk:∀q∈L,TK prog w h q.1 q.2
 p:(es.toList.map bf).Perm (L.map λq=>Value.ref q.2)
variable{L:List (List Key×Addr)}{es:Array (Int×aa)}{t:aW}{m n ep:Nat}{S a2:Addr}{k2:List Key}{o:Obj}{h:Int}
theorem Ga{Q:SetFound->ab->Prop}(hu:A.units<cLine)(T:Tb t m n)(hm:m=7\/m=31)(hf:t.fits es.size=true)(l:Els prog w s.heap L es)(t2:TK prog w s.heap k2 a2)(ne:k2∉L.map bU)
  (ho:s.heap.get? S=some o) (hd:o.data=.set es ep t) (hQ:∀j,t.slot j=.empty->Q (.free j false) s):∀(fuel f:Nat) (st:Option dG),f<fuel->f<=10 * fi m->(st.getD (t.probeStart h)).dummy=none->Emp t f (st.getD (t.probeStart h))->
   ag (model prog w) A (setSearchFrom S (.ref a2) h true fuel st) Q E s
 |0,f,st,hl,_,_,_=>ao hl (by omega)
 |fuel+1,f,st,hl,hg,hdm,he=>by
  have sz:es.size=n:=by unfold fV at hf;rw[aF,beq_iff_eq,T.pl]at hf;exact hf.1.symm
  unfold setSearchFrom;refine ae (cc ho hd hf ?_);dsimp only;rw[aj (by unfold SetTable.gaveWay;rw[T.mask];rcases hm with rfl|rfl<;>decide)];unfold SetTable.probe;rw[Tc (F':=λi=>(es[i]?.map (·.1)).getD 0),T.mask]
  rotate_left
  ·intro i;rfl
  rcases L9 T (λi=>(es[i]?.map (·.1)).getD 0) h f _ hdm he (10 * fi m) hg with ⟨j,e1,e2⟩|⟨j,i,nx,f',h1,h2,h3,h4,h5,h6,h7⟩
  ·rw[e2];exact ai (hQ j e1)
  ·rw[h5];dsimp only;have hi:i<es.size:=by rw[sz,<- T.pl];exact(jS.mp h3).1
   obtain⟨⟨h',y⟩,ey⟩:∃e,es[i]?=some e:=⟨es[i],gw hi⟩;have my:y∈es.toList.map bf:=az.mpr ⟨(h',y),by rw[<-fI]at ey;exact bF ey,rfl⟩;obtain⟨q,hq,rfl⟩:=az.mp (l.p.mem_iff.mp my);have t1:=l.tk q hq;have nk:q.1≠k2:=λe=>ne (az.mpr ⟨q,hq,e⟩);have si:t.sameMemory t.moves m=some true:=by unfold SetTable.sameMemory;simp
   have rest:ag (model prog w) A (setSearchFrom S (.ref a2) h true fuel (some nx)) Q E s:=Ga hu T hm hf l t2 ne ho hd hQ fuel f' (some nx) (by omega) (by omega) h6 h7;have sb:∀v∈cn (λx:Int×aa=>x.snd) (Array.filter (λx=>x.fst==h) es).toList,∃k a,v=Value.ref a/\TK prog w s.heap k a:=λv hv=>by
    obtain⟨e,he,rfl⟩:=az.mp hv;have he:e∈es.toList:=by rw[Array.toList_filter]at he;exact(bp.mp he).1
    obtain⟨q,hq,e2⟩:=az.mp (l.p.mem_iff.mp (az.mpr ⟨e,he,rfl⟩));exact⟨q.1,q.2,e2.symm,l.tk q hq⟩
   cases hb:t.led;refine ae (Ma sb t2 ?_)
   all_goals
    rw[ey];refine ae (bu (wpAny_eqBool_tuple hu t1 t2 ?_));refine ae (cc ho hd hf ?_);rw[aN nk];dsimp only;rw[aj (by decide),si];dsimp only;rw[ah rfl,h2];dsimp only;rw[ey];refine ae (wpAny_isSame_ref_self ?_);refine ae (ai ?_);exact rest
end
def Nn(ow:Array (Option Nat))(j:Nat):Prop:=(ow.getD j (some 0)).isNone=true
variable{j:Nat}{led:Bool}
section
variable{ow:Array (Option Nat)}
theorem Td(i:Nat):0<dF 31 i+1 - i:=by unfold dF;split<;>omega
theorem D2{f:Nat}:(∃j,Nn ow j/\cU 31 ow (f+1) i q=some j)\/(¬Nn ow i/\cU 31 ow (f+1) i q=cU 31 ow f ((i * 5+1+q / 32) % 32) (q / 32)):=by
 have ef:cU 31 ow (f+1) i q=match (aL (dF 31 i+1 - i)).find? λk=>(ow.getD (i+k) (some 0)).isNone with
  |some k=>some (i+k)
  |none=>cU 31 ow f ((i * 5+1+q / 32) % 32) (q / 32):=rfl
 rw[ef];cases e:(aL (dF 31 i+1 - i)).find? λk=>(ow.getD (i+k) (some 0)).isNone with
 |some k=>exact .inl ⟨i+k,List.find?_some (p:=λk=>(ow.getD (i+k) (some 0)).isNone) e,rfl⟩
 |none=>refine .inr ⟨λh=>?_,rfl⟩;have:=List.find?_eq_none.mp e 0 (bo.mpr (Td i));exact this h
theorem Gb{r:Nat}(hr:Nn ow r):∀(k f i:Nat),k<=f->r∈orb 31 k i->∃j,Nn ow j/\cU 31 ow f i 0=some j
 |0,f,i,_,h=>by cases h
 |k+1,0,i,hf,_=>ao hf (by omega)
 |k+1,f+1,i,hf,h=>by
  rcases D2 (ow:=ow) (f:=f) (i:=i) (q:=0)with h1|⟨h1,h2⟩
  ·exact h1
  ·rcases aH.mp h with e|h
   ·exact ao (e▸hr) h1
   ·rw[h2];exact Gb hr k f _ (by omega) h
theorem Gc{r:Nat}(hr:Nn ow r)(h32:r<=31):∀(k f i q:Nat),k+32<=f->i<=31->q<32 ^ k->∃j,Nn ow j/\cU 31 ow f i q=some j
 |0,f,i,q,hf,hi,hq=>by
  have q0:q=0:=by simpa using hq
  rw[q0];exact Gb hr 32 f i (by omega) (IK (m:=31) (.inr rfl) hi h32)
 |k+1,0,i,q,hf,_,_=>ao hf (by omega)
 |k+1,f+1,i,q,hf,hi,hq=>by
  rcases D2 (ow:=ow) (f:=f) (i:=i) (q:=q)with h1|⟨_,h2⟩
  ·exact h1
  ·rw[h2];exact Gc hr h32 k f _ _ (by omega) (by omega) (by rw[mQ]at hq;omega)
def lv(ow:Array (Option Nat)):List (Nat×Nat):=(aL 32).filterMap λj=>(ow.getD j none).map (j,·)
theorem Vf(hs:ow.size=32)(h:Nn ow j):j<32/\ow.getD j none=none:=by
 unfold Nn at h;by_cases hj:j<ow.size
 ·refine⟨by omega,?_⟩;rw[eG,gw hj]at h ⊢;simpa using h
 ·rw[eG,Array.getElem?_eq_none (by omega)]at h;cases h
theorem Te(hs:ow.size=32){k:Nat}(h:Nn ow j):(lv (ow.setIfInBounds j (some k))).Perm ((j,k)::lv ow):=by
 obtain⟨hj,e⟩:=Vf hs h;have get:∀i,(ow.setIfInBounds j (some k)).getD i none=if i=j then some k else ow.getD i none:=λi=>by
  rw[eG,eG,Array.getElem?_setIfInBounds];by_cases hi:j=i
  ·subst hi;rw[ah rfl,ah (by omega),ah rfl];rfl
  ·rw[aj hi,aj (λe=>hi e.symm)]
 obtain⟨a,b,sp⟩:=List.append_of_mem (bo.mpr hj);have nd:(aL 32).Nodup:=lG;rw[sp,bJ,dD]at nd;unfold lv;rw[sp,j8,j8,cX,cX,get j,ah rfl,e];have eq:∀l:List Nat,j∉l->l.filterMap (λi=>((ow.setIfInBounds j (some k)).getD i none).map (i,·))=l.filterMap λi=>(ow.getD i none).map (i,·):=λl hl=>by
  induction l with
  |nil=>rfl
  |cons i l ih=>rw[cX,cX,ih λz=>hl (aO _ z),get i,aj λe=>hl (by rw[<-e];exact aP)]
 rw[eq a λz=>nd.2.2 j z j aP rfl,eq b nd.2.1.1];exact List.perm_middle
theorem Mb:∀(hs:List Int) (ow:Array (Option Nat)) (k:Nat),ow.size=32->((lv ow).map bf).Perm (aL k)->k+hs.length<=31->∃ow',ow'.size=32/\((lv ow').map bf).Perm (aL (k+hs.length))/\
  (hs.foldl (λacc h=>do
   let (owner,k)<-acc;let j<-cU 31 owner (fi 31) (bQ h % (31+1)) (bQ h)
   pure (owner.setIfInBounds j (some k),k+1)) (some (ow,k)))=some (ow',k+hs.length)
 |[],ow,k,h1,h2,_=>⟨ow,h1,h2,rfl⟩
 |h::hs,ow,k,h1,h2,h3=>by
  rw[aB]at h3 ⊢;have fr:∃r,r<=31/\Nn ow r:=by
   apply jT;intro no;have len:(lv ow).length=32:=by
    have:∀l:List Nat,(∀j∈l,j<=31)->(l.filterMap λj=>(ow.getD j none).map (j,·)).length=l.length:=λl hl=>by
     induction l with
     |nil=>rfl
     |cons j l ih=>
      have hj:=hl j aP;have hn:¬Nn ow j:=λe=>no ⟨j,hj,e⟩;cases e:ow.getD j none with
      |none=>refine ao ?_ hn;unfold Nn;rw[eG,gw (by omega)]at e ⊢;simpa using e
      |some x=>rw[cX,e];show (List.filterMap _ l).length+1=l.length+1;rw[ih λz hz=>hl z (aO _ hz)]
    exact(this (aL 32) λj hj=>by have:=bo.mp hj;omega).trans cb
   have:=h2.length_eq;rw[af,cb,len]at this;omega
  obtain⟨r,hr,nr⟩:=fr;have hb:bQ h<32 ^ 13:=by unfold bQ;omega
  obtain⟨j,nj,ej⟩:=Gc nr hr 13 (fi 31) (bQ h % (31+1)) (bQ h) (by decide) (by omega) hb;obtain⟨ow',q1,q2,q3⟩:=Mb hs (ow.setIfInBounds j (some k)) (k+1) (by rw[Array.size_setIfInBounds];exact h1) (by
   refine((Te h1 nj).map bf).trans ?_;rw[aG,List.range_succ];exact((List.Perm.cons k h2).trans (iu k _).symm)) (by omega)
  refine⟨ow',q1,by rw[show k+(hs.length+1)=k+1+hs.length by omega];exact q2,?_⟩;rw[fS,show k+(hs.length+1)=k+1+hs.length by omega,<- q3];congr 1;show (cU 31 ow (fi 31) (bQ h % (31+1)) (bQ h)).bind _=_;rw[ej];rfl
theorem OZ{fg mv:Nat}{pl:Bool}(hs:Array Int)(hn:hs.size<=31):∃t order,jn 31 fg mv led pl hs=some (t,order)/\Tb t 31 hs.size/\t.led=led/\t.plain=pl/\order.toList.Perm (aL hs.size):=by
 obtain⟨ow,h1,h2,h3⟩:=Mb hs.toList (l3 32 none) 0 (by simp) (by
  have:lv (l3 32 none)=[]:=by unfold lv;rw[List.filterMap_eq_nil_iff];intro j hj;rw[eG,Array.getElem?_replicate,ah (bo.mp hj)];rfl
  rw[this];exact .nil) (by rw[bh];omega)
 rw[jr,bh]at h2 h3;have e:kU 31 hs=some ow:=by unfold kU;rw[<-Array.foldl_toList];exact bj (m9 bU) h3
 refine⟨_,_,by unfold jn;rw[e];rfl,⟨rfl,rfl,?_⟩,rfl,rfl,?_⟩
 ·have:=h2.length_eq;rw[af,cb]at this;show (cn _ (lv ow)).toArray.size=_;rw[aM,af,this]
 ·exact h2
end
def Cz2(m n:Nat):Prop:=(m=7/\n<=4)\/(m=31/\n<=18)\/(m=127/\19<=n/\n<=63)
variable{x:Str}
section
variable{prog:ar}{w:aq}{A:av}{E:aa->ab->Prop}{s:ab}
theorem Mc{ks:List Key}{a:Addr}{Q:Bool->ab->Prop}(hk:TK prog w s.heap (Sum.inr x::ks) a)(h:Q false s):ag (model prog w) A (hashByValue 8 (.ref a)) Q E s:=by
 have hT:=hk.typeIs;obtain⟨o,items,n,ho,_,hd,hi⟩:=hk;unfold hashByValue;refine ae (eZ hT F.slot_tuple_hash.lookup ?_);show ag _ _ (seqItems? (.ref a)>>=_) _ _ s;refine ae (jf ho hd ?_);refine ae ?_;show ag _ _ (forIn items _ _) _ _ s;rw[<-kH];generalize items.toList=l at hi ⊢;cases hi with
 |@cons _ v _ vs h1 h2=>
  obtain⟨t,rfl⟩:∃t,v=.str x t:=IH h1;refine i4 _ (λrest r s'=>s'=s/\∃u,rest=.str x t::u) _ ?_ ?_ _ _ ⟨rfl,vs,rfl⟩
  ·rintro v rest r s' ⟨rfl,u,e⟩;cases e;refine ae (m:=hashByValue 7 (.str x t)) (ai ?_);exact ai (ai h)
  ·rintro r s' ⟨rfl,u,e⟩;cases e
variable{L:List (List Key×Addr)}{es:Array (Int×aa)}{t:aW}{m n ep:Nat}{S a2:Addr}{k2:List Key}{o:Obj}{h:Int}
theorem Me{Q:Unit->ab->Prop}(hc:t.mask=7)(ho:s.heap.get? S=some o)(hd:o.data=.set es ep t)(hf:t.fits es.size=true)(h5:es.size=5)
  (hQ:∀h' es' t',cu S s.heap h'->h'.get? S=some { o with data:=.set es' (ep+1) t' }->Tb t' 31 5->t'.led=t.led->t'.plain=t.plain->es'.toList.Perm es.toList->Q () { s with heap:=h' }):ag (model prog w) A (setRelay S (cH 5)) Q E s:=by
 unfold setRelay;refine ae (cc ho hd hf ?_);dsimp only;rw[aj (by rw[bK];decide)];obtain⟨t',order,e1,T,e2,e3,e4⟩:=OZ (fg:=t.finger) (mv:=t.movedTo 31) (led:=t.led) (pl:=t.plain) (es.map (·.1)) (by rw[ml];omega)
 rw[ml]at T e4;have hp:(order.filterMap (es[·]?)).toList.Perm es.toList:=by rw[Array.toList_filterMap];exact(e4.filterMap _).trans (by rw[iy])
 have er:t.relaid (es.map (·.1)) (cH 5)=some (t',order):=e1
 rw[er];have sz:(order.filterMap (es[·]?)).size=es.size:=by have:=hp.length_eq;rw[bh,bh]at this;exact this
 refine ae ?_;wp_delta;dsimp only;rw[aj (by rw[sz];simp)];refine ai ?_;refine gX ho hd ?_ (by show (order.filterMap (es[·]?)).size<=ay;rw[sz,bK];omega)
 exact hQ _ _ _ (cp ..) (He ho hd) (by rw[h5]at T;exact T) e2 e3 hp
theorem add_n{Q:Bool->ab->Prop}(hu:A.units<cLine)(T:Tb t m n)(hc:Cz2 m n)(h8:n<=8)(hf:t.fits es.size=true)(l:Els prog w s.heap L es)(t2:TK prog w s.heap (Sum.inr x::k2) a2)(ne:(Sum.inr x::k2)∉L.map bU)
  (ho:s.heap.get? S=some o) (hd:o.data=.set es ep t)
  (hQ:∀h' es' t' ep' m',cu S s.heap h'->h'.get? S=some { o with data:=.set es' ep' t' }->Tb t' m' (n+1)->Cz2 m' (n+1)->t'.led=t.led->t'.plain=false->(es'.toList.map bf).Perm (.ref a2::es.toList.map bf)->Q true { s with heap:=h' }):
  ag (model prog w) A (setAddHashed S (.ref a2) h) Q E s:=by
 have hc:(m=7/\n<=4)\/(m=31/\n<=9):=by unfold Cz2 at hc;omega
 have hm:m=7\/m=31:=hc.imp And.left And.left;have sz:es.size=n:=by unfold fV at hf;rw[aF,beq_iff_eq,T.pl]at hf;exact hf.1.symm
 unfold setAddHashed setAddHashedIn;refine bu (ae (cc ho hd hf ?_));dsimp only;rw[aj (by simp[byScan,Value.scannable])];have nm:n<=m:=by rcases hc with ⟨rfl,h⟩|⟨rfl,h⟩<;>omega
 refine ae (Ga hu T hm hf l t2 ne ho hd (λj hj=>?_) 100000 (10 * (m+14)) none (by rcases hm with rfl|rfl<;>decide) (by unfold fi;omega) rfl (Emp.start T hm nm h));dsimp only;refine ae (cc ho hd hf ?_);dsimp only;have p1:(t.put j).1.mask=m:=T.mask;have p2:(t.put j).1.dummies=#[]:=by show (if mO t.dummies j then _ else t.dummies)=_;rw[T.dm];rfl
 have p3:(t.put j).1.place.size=n+1:=by have:=(j3 t.place (cG t.place j) j).length_eq;rw[bh,bh,Array.size_push,T.pl]at this;exact this
 have p4:(eU es (t.put j).2 (h,Value.ref a2)).toList.Perm ((h,.ref a2)::es.toList):=by refine(j3 es _ _).trans ?_;rw[iX];exact iu _ _
 have p5:(eU es (t.put j).2 (h,Value.ref a2)).size=n+1:=by have:=p4.length_eq;rw[bh,aB,bh,sz]at this;exact this
 let t1:aW:={ (t.put j).1 with plain:=false };have T1:Tb t1 m (n+1):=⟨p1,p2,p3⟩;have f1:t1.fits (eU es (t.put j).2 (h,Value.ref a2)).size=true:=by unfold fV jo;rw[p5,T1.pl,T1.dm,T1.mask,aF];exact⟨by simp,aR (by rcases hc with ⟨rfl,h⟩|⟨rfl,h⟩<;>simp<;>omega)⟩
 have fin:∀t0:aW,t0=t1->ag (model prog w) A (do
   storeSet S (eU es (t.put j).2 (h,.ref a2)) t0
   if (!false&&t0.tooFull)=true then do setRelay S (cH (es.size+1));pure true else pure true) Q E s:=λt0 e=>by
  subst e;refine ae (gX ho hd ?_ (by rw[p5,bK];omega));have g1:=He (es':=eU es (t.put j).2 (h,Value.ref a2)) (t':=t1) ho hd;have tf:t1.tooFull=decide ((n+1) * 5 >= m * 3):=by unfold SetTable.tooFull jo;rw[T1.pl,T1.dm,T1.mask];rfl
  rw[tf];by_cases h5:(n+1) * 5 >= m * 3
  ·rw[aR h5,ah (by decide)];obtain⟨rfl,rfl⟩:m=7/\n=4:=by rcases hc with ⟨rfl,h⟩|⟨rfl,h⟩<;>omega
   rw[sz];refine ae (Me (s:={ s with heap:=s.heap.update S (fA (eU es (t.put j).2 (h,.ref a2)) t1) }) T1.mask g1 rfl f1 p5 λh' es' t' b1 b2 b3 b4 b5 b6=>?_);refine ai (hQ h' es' t' _ 31 ((cp ..).trans b1) b2 b3 (.inr (.inl ⟨rfl,by decide⟩)) b4 b5 ?_);exact(b6.map _).trans (p4.map _)
  ·rw[aN h5,aj (by decide)];refine ai (hQ _ _ _ _ m (cp ..) g1 T1 ?_ rfl rfl (p4.map _));rcases hc with ⟨rfl,h⟩|⟨rfl,h⟩
   ·exact .inl ⟨rfl,by omega⟩
   ·exact .inr (.inl ⟨rfl,by omega⟩)
 split
 ·refine ae (Mc t2 ?_);exact fin _ rfl
 ·rename_i hp;refine ae (ai (fin _ ?_));rw[lE]at hp;rw[ah rfl];show (t.put j).1={ (t.put j).1 with plain:=false };rw[<-hp]
end
structure Dx(h:Heap)(S:Addr)(L:List (List Key×Addr))(led:Bool)(n:Nat)(o:Obj)(es:Array (Int×aa))(ep:Nat)(t:aW):Prop where
 at_:h.get? S=some o
 ex:o.ExactSet
 d:o.data=.set es ep t
 c:∃m,Tb t m n/\Cz2 m n
 led:t.led=led
 pl:0<n->t.plain=false
 p:(es.toList.map bf).Perm (L.map λq=>Value.ref q.2)
variable{o:Obj}{es:Array (Int×aa)}{ep:Nat}
theorem Dx.sz{h:Heap}{S:Addr}{L:List (List Key×Addr)}{n:Nat}{t:aW}(x:Dx h S L led n o es ep t):es.size=L.length:=by have:=x.p.length_eq;rw[af,af,bh]at this;exact this
theorem Dx.fits{h:Heap}{S:Addr}{L:List (List Key×Addr)}{n:Nat}{t:aW}(x:Dx h S L led n o es ep t)(hl:L.length=n):t.fits es.size=true:=by obtain⟨m,T,c⟩:=x.c;unfold fV jo;rw[x.sz,hl,T.pl,T.dm,T.mask,aF];exact⟨by simp,aR (by unfold Cz2 at c;simp;omega)⟩
section
variable{prog:ar}{w:aq}{A:av}{R:cR->ab->Prop}{I:Addr}{fp wr:List Addr}{GG:Array dh->Array dh->Prop}{n:Nat}{PP:Nat->aa->Prop}{SS:Nat->ab->Prop}
theorem J6(W:WalksS prog w A.in1 I fp wr GG n PP SS){S:Addr}(hSf:S∉fp)(hu:A.in1.units<cLine)(L:List (List Key×Addr))(hn:L.length=n)(h8:n<=8)(nd:(L.map bU).Nodup)(hk:∀q∈L,∃x k,q.1=Sum.inr x::k)(far:∀q∈L,q.2∉S::wr)
  (hval:∀i v,PP i v->∃q,L[i]?=some q/\v=.ref q.2):∀(k i:Nat) (s:ab) (o:Obj) (es:Array (Int×aa)) (ep:Nat) (t:aW),n - i=k->i<=n->SS i s->(∀q∈L,TK prog w s.heap q.1 q.2)->Dx s.heap S (L.take i) led i o es ep t->
   (∀s' o es ep t,Moved (S::wr) GG s s'->Dx s'.heap S L led n o es ep t->R (.ok (.ret .none)) s')->
   bI (model prog w) A (.builtin "set.update.loop" ⟨[.ref S,.ref I],[]⟩) R s:=by
 have hSw:S∉wr:=λz=>hSf (W.sub _ z);have up:∀b∈wr,b∈S::wr:=λb z=>aO _ z;intro k
 induction k with
 |zero=>
  intro i s o es ep t hk' hi hst tk x hR;obtain rfl:i=n:=by omega
  refine cF eJ ?_;rw[cW cz _];show ag _ A.in1 (pyNext (.ref I)>>=_) _ _ s;refine ae (W.done s _ _ hst λs' hm=>?_);show ag _ A.in1 (ret Value.none) _ _ s';rw[fH (by omega)]at x;exact ai (hR s' o es ep t (hm.mono up) { x with at_:=hm.heap S _ hSw x.at_ })
 |succ k ih=>
  intro i s o es ep t hk' hi hst tk x hR;have hlt:i<n:=by omega
  refine cF eJ ?_;rw[cW cz _];show ag _ A.in1 (pyNext (.ref I)>>=_) _ _ s;refine ae (W.item i s _ _ hlt hst λv s' hP hst' hm=>?_);obtain⟨q,eq,rfl⟩:=hval i v hP;have mq:q∈L:=bF eq;have tk':∀q∈L,TK prog w s'.heap q.1 q.2:=λq hq=>(tk q hq).kept λo=>hm.heap q.2 o λz=>far q hq (up _ z);show ag _ A.in1 (holding _ (setAdd S _)>>=_) _ _ s';refine ae (bu ?_);unfold setAdd;refine bu ?_;refine ae (wpAny_pyHash_tuple hu (tk' q mq) ?_);obtain⟨m,T,c⟩:=x.c;obtain⟨z,kk,ez⟩:=hk q mq;have tq:TK prog w s'.heap (Sum.inr z::kk) q.2:=by rw[<-ez];exact tk' q mq
  have split:L.take (i+1)=L.take i++[q]:=by rw[iV,eq];rfl
  have ne:(Sum.inr z::kk)∉(L.take i).map bU:=λw'=>by have h1:((L.take (i+1)).map bU).Nodup:=nd.sublist ((fN _ _).map _);rw[split,aS,bJ]at h1;exact h1.2.2 _ w' _ (aX.mpr ez.symm) rfl
  have sub:∀r∈L.take i,r∈L:=λr hr=>(fN _ _).subset hr;have x':Dx s'.heap S (L.take i) led i o es ep t:={ x with at_:=hm.heap S _ hSw x.at_ };refine add_n (s:={ s' with toks:=s'.toks+(q.1.length+1) }) (L:=L.take i) hu T c (by omega) (x'.fits (by rw[bz];omega)) ⟨λr hr=>tk' r (sub r hr),x'.p⟩ tq ne x'.at_ x'.d λh' es' t' ep' m' b1 b2 b3 b4 b5 b6 b7=>?_;have y:Dx h' S (L.take (i+1)) led (i+1) { o with data:=.set es' ep' t' } es' ep' t':=by refine⟨b2,x.ex,rfl,⟨m',b3,b4⟩,b5.trans x.led,λ_=>b6,b7.trans ?_⟩;rw[split,aS];exact(List.Perm.cons _ x.p).trans (iu _ _).symm
  refine ai ⟨d9 cz _,ih (i+1) _ _ _ _ _ (by omega) hlt (W.frame _ s' h' _ hst' (eW _ _) λb z o e=>?_) (λr hr=>(tk' r hr).kept λo e=>?_) y λs'' o2 es2 ep2 t2 hm'' x2=>?_⟩
  ·rw[b1.2 b (λy:b=S=>hSf (by rw[<-y];exact z))];exact e
  ·rw[b1.2 r.2 (λy:r.2=S=>far r hr (by rw[y];exact aP))];exact e
  ·refine hR s'' o2 es2 ep2 t2 (ib W.gtrans ((hm.mono up).then_heap (eW _ _) λb o z e=>?_) hm'') x2;rw[b1.2 b (λy:b=S=>z (by rw[y];exact aP))];exact e
end
theorem EW{α:Type}:∀(l:List α) (j:Nat) (x:α),l[j]?=some x->(x::l.eraseIdx j).Perm l
 |[],j,x,h=>by cases h
 |a::l,0,x,h=>by cases h;exact .refl _
 |a::l,j+1,x,h=>(List.Perm.swap a x _).trans (List.Perm.cons a (EW l j x h))
theorem IL{α:Type}(nx:Nat->Nat):∀(f k:Nat) (l:List α) (out:Array α),l.length=f->(mR nx f k l out).toList.Perm (out.toList++l)
 |0,k,l,out,h=>by obtain rfl:=gz.mp h;rw[bA];exact .refl _
 |f+1,k,l,out,h=>by have hlt:nx k % l.length<l.length:=eC _ (by omega);have e:l[nx k % l.length]?=some l[nx k % l.length]:=aY hlt;unfold mR;rw[e];refine(IL nx f (k+1) _ _ (by rw[km,ah hlt];omega)).trans ?_;rw[iX,bq];exact List.Perm.append_left _ (EW l _ _ e)
theorem D3{α:Type}(nx:Nat->Nat)(xs:Array α):(pickOrder nx xs).toList.Perm xs.toList:=IL nx xs.size 0 xs.toList #[] bh
section
variable{prog:ar}{w:aq}{A:av}{E:aa->ab->Prop}{s:ab}
theorem O0{n:Nat}{src:Source}{Q:Nat->ab->Prop}(hn:n≠0)(h:∀i d,i<n->Q i { s with drawn:=d }):ag (model prog w) A (choose src n) Q E s:=λΓ p hΓ=>by show Sem.wp _ Γ (.choose src n .pure) _ _ p s;rw[Sem.wp_choose];exact⟨hn,h _ _ (eC _ (Nat.pos_of_ne_zero hn))⟩
theorem IM{α:Type}:∀(n:Nat) (xs:List α) (s:ab) {Q:List α->ab->Prop},xs.length=n->(∀ys d,ys.Perm xs->Q ys { s with drawn:=d })->ag (model prog w) A (drawOrder n xs) Q E s
 |0,xs,s,Q,hl,h=>by obtain rfl:=gz.mp hl;unfold drawOrder;exact ai (h [] s.drawn (.refl _))
 |n+1,[],s,Q,hl,h=>by cases hl
 |n+1,a::xs,s,Q,hl,h=>by unfold drawOrder;refine ae (O0 (by simp) λi d hi=>?_);have e:(a::xs)[i]?=some (a::xs)[i]:=aY hi;rw[e];refine ae (IM n _ _ (by rw[km,ah hi];omega) λys d' p=>?_);exact ai (h _ d' ((List.Perm.cons _ p).trans (EW _ _ _ e)))
end
theorem tP:Slot "set_iterator" "__next__" "set_iterator.__next__" :=
 .of (owner:="set_iterator") (n:="__next__") (by rw[l4,j9];kernel_rfl) (by decide +kernel) (by decide +kernel) (by decide +kernel)
  (by first|exact .inl (by decide +kernel)|exact .inr (by decide +kernel)) (by rw[hG];kernel_rfl)
theorem zZ:Slot "set_iterator" "__iter__" "set_iterator.__iter__" :=
 .of (owner:="set_iterator") (n:="__iter__") (by rw[l4,j9];kernel_rfl) (by decide +kernel) (by decide +kernel) (by decide +kernel)
  (by first|exact .inl (by decide +kernel)|exact .inr (by decide +kernel)) (by rw[hG];kernel_rfl)
theorem Dy:entryFor table "set_iterator.__next__" = some dj.«set_iterator.__next__»:=entryFor_of_tree (by kernel_rfl)
theorem Gd:Manifest.owners.lookup (String.ofList ['r','o','t','a','r','e','t','i','_','t','e','s'].reverse)=some Manifest.sig_set_iterator:=by kernel_rfl
theorem EX(a:aa):argsOk "set_iterator.__next__" ⟨[a],[]⟩:=by unfold argsOk;rw[mH (id:="set_iterator.__next__") (n:=['_','_','t','x','e','n','_','_']) (o:=['r','o','t','a','r','e','t','i','_','t','e','s']) (by kernel_rfl) Gd];kernel_rfl
theorem EY:entryFor table "set.__iter__" = some dj.«frozenset.__iter__»:=mm (id':="frozenset.__iter__") (by kernel_rfl) rfl (by decide +kernel) (by kernel_rfl)
inductive Md(w:aq) (h:Heap) (S TP:Addr) (i:Nat) (ord:List aa) (es:Array (Int×aa)) (ep:Nat) (t:aW):aa->Prop
 |txt {sl:Int} {tk:Tok}:w.params.followText "set-order" = true->ord=(pickOrder (w.params.setOrder S ep) es).toList.map bf->Md w h S TP i ord es ep t (.int sl tk)
 |drw {ps:List Nat} {vs:Array aa} {ot:Obj} {nt:Nat}:w.params.followText "set-order" = false->h.get? TP=some ot->ot.cls=.type "tuple" -> ot.data=.seq vs nt->vs=(ps.map λp:Nat=>rawInt p).toArray->ps.Perm (aL es.size)->ord=ps.filterMap (λp=>es[p]?.map bf)->Md w h S TP i ord es ep t (.ref TP)
 |one {sl:Int}:w.params.followText "set-order" = false->es.size<=1->t.led=true->(i=0->sl=0)->(∀j,i=1->t.place=#[j]->sl=(j+1:Nat))->ord=es.toList.map bf->Md w h S TP i ord es ep t (.int sl 0)
structure ItS(w:aq)(I S TP:Addr)(ord:List aa)(o:Obj)(es:Array (Int×aa))(ep:Nat)(t:aW)(i:Nat)(h:Heap):Prop where
 it:∃oi first,h.get? I=some oi/\oi.cls=.type "set_iterator" /\ oi.data=.fields #[first,.int i 0,.ref S,.int es.size 0,.int ep 0]/\Md w h S TP i ord es ep t first
 at_:h.get? S=some o
 d:o.data=.set es ep t
 f:t.fits es.size=true
variable{sl:Int}{tk:Tok}{h':Heap}
section
variable{prog:ar}{w:aq}{A:av}{E:aa->ab->Prop}{s:ab}{I S TP:Addr}{ord:List aa}{o:Obj}{es:Array (Int×aa)}{ep:Nat}{t:aW}{i:Nat}
theorem AC{Q:Bool->ab->Prop}(h:Q (w.params.followText "set-order") s):ag (model prog w) A setsByText Q E s:=by unfold setsByText;exact ae (i6 (ai h))
theorem Ht{Q:Option (aa×Nat)->ab->Prop}(x:ItS w I S TP ord o es ep t i s.heap)(hm:Md w s.heap S TP i ord es ep t (.int sl tk))(hi:i<=1\/w.params.followText "set-order" = true)
  (hQ:∀(v:aa) (nx:Nat),ord[i]?=some v->Md w s.heap S TP (i+1) ord es ep t (.int nx 0)->Q (some (v,nx)) s) (hN:ord[i]?=none->Q none s):ag (model prog w) A (setNext S sl.toNat i ep) Q E s:=by
 unfold setNext;refine ae (cc x.at_ x.d x.f ?_);dsimp only;refine ae (AC ?_);cases hm with
 |txt h1 h2=>
  rw[h1,ah rfl];rw[aj (by simp)];refine ae ?_;unfold setWalk;refine ae (cc x.at_ x.d x.f ?_);dsimp only;refine ae (AC ?_);rw[h1,ah rfl];refine ae (i6 ?_);refine ai ?_;refine ai ?_;show Q (m9 (λe=>(e.snd,sl.toNat)) (pickOrder (w.params.setOrder S ep) es)[i]?) s;have e:ord[i]?=((pickOrder (w.params.setOrder S ep) es)[i]?).map bf:=by rw[h2,bb,fI]
  cases hp:(pickOrder (w.params.setOrder S ep) es)[i]? with
  |none=>rw[hp]at e;exact hN e
  |some q=>rw[hp]at e;exact hQ q.2 _ e (.txt h1 h2)
 |one h1 h2 h3 h4 h5 h6=>
  have fs:t.place.size=es.size:=by have:=x.f;unfold fV at this;rw[aF,beq_iff_eq]at this;exact this.1
  rw[h1,aj (by decide)];rw[aj (λhh=>by
   have:(!t.plain&&decide (es.size > 1))=true:=hh;simp at this;omega)]
  refine ae ?_;wp_delta;rw[aj (by rw[h3];simp)];refine ai ?_;refine ai ?_;have c:es.size=0\/es.size=1:=by omega
  rcases c with c|c
  ·have e1:es=#[]:=Array.eq_empty_of_size_eq_zero c;subst e1;exact hN (by rw[h6];rfl)
  ·obtain⟨e,rfl⟩:=ka.mp c;obtain⟨j,ej⟩:=ka.mp (fs.trans c);rw[ej];have hi1:i<=1:=hi.resolve_right λe=>by rw[h1]at e;cases e
   have:i=0\/i=1:=by omega
   rcases this with rfl|rfl
   ·rw[h4 rfl];show Q (match #[e][cG #[j] 0]?,#[j][cG #[j] 0]? with|some (_,x),some j=>some (x,j+1)|_,_=>none) s;rw[show cG #[j] 0=0 from by simp[cG,kW]];exact hQ e.2 (j+1) (by rw[h6];rfl) (.one h1 h2 h3 (λz=>by cases z) (λj' _ e'=>by rw[ej]at e';cases e';rfl) h6)
   ·rw[h5 j rfl ej];show Q (match #[e][cG #[j] (j+1)]?,#[j][cG #[j] (j+1)]? with|some (_,x),some j=>some (x,j+1)|_,_=>none) s;rw[show cG #[j] (j+1)=1 from by simp[cG,kW]];exact hN (by rw[h6];rfl)
theorem ItS.ty(x:ItS w I S TP ord o es ep t i s.heap):s.TypeIs (.ref I) "set_iterator" := let ⟨⟨oi,_,h1,h2,_⟩,_,_,_⟩:=x;⟨oi,h1,h2⟩
theorem ItS.ordlen(x:ItS w I S TP ord o es ep t i s.heap):ord.length=es.size:=by
 obtain⟨⟨oi,first,_,_,_,hm⟩,_,_,_⟩:=x;cases hm with
 |txt h1 h2=>rw[h2,af,(D3 _ es).length_eq,bh]
 |drw h1 h2 h3 h4 h5 h6 h7=>rw[h7,(h6.filterMap _).length_eq];have:=iy es;rw[show (aL es.size).filterMap (λp=>es[p]?.map bf)=((aL es.size).filterMap λp=>es[p]?).map bf from(kK ..).symm,this,af,bh]
 |one h1 h2 h3 h4 h5 h6=>rw[h6,af,bh]
theorem Mg{α β:Type}(f:α->Option β):∀(ps:List α),(∀p∈ps,∃v,f p=some v)->∀i:Nat,(ps.filterMap f)[i]?=ps[i]?.bind f
 |[],_,i=>rfl
 |p::ps,h,i=>by
  obtain⟨v,e⟩:=h p aP;rw[cX,e];cases i with
  |zero=>show some v=f p;rw[e]
  |succ i=>exact Mg f ps (λq hq=>h q (aO _ hq)) i
theorem Md.mv{h:Heap}(m:Md w h S TP i ord es ep t (.int sl tk)):Md w h' S TP i ord es ep t (.int sl tk):=by
 cases m with
 |txt h1 h2=>exact .txt h1 h2
 |one h1 h2 h3 h4 h5 h6=>exact .one h1 h2 h3 h4 h5 h6
theorem IP{B:av}{R:Fin->ab->Prop}{s0:ab}{Q:Option aa->ab->Prop}(hh:B.handled=none)(hN:∀h',(∀b o,s0.heap.get? b=some o->h'.get? b=some o)->Q none { s0 with heap:=h' }):
  ag (model prog w) B (do let e<-newExc (.type "StopIteration") [];raiseNew e) R (λe s'=>ag (model prog w) A (do if<-isInstance e (.type "StopIteration")then pure none else throw e) Q E s') s0:=by
 refine ae ?_;simp only[newExc,newTuple];refine ae (cB ?_ (by size_fits));refine ae (m:=firstArgMember _ _) (wpAny_of_eq (a:=Value.none) (by first|rfl|(simp only[firstArgMember];rfl)) ?_);refine cB ?_ (by size_fits);simp only[raiseNew];refine ae (wpAny_handled ?_);rw[hh];refine ae (ai (wpAny_throw ?_));refine ae (lI (T:="StopIteration") (b:=true) ⟨_,aU _ rfl,rfl⟩ isSubtype_stop ?_);exact ai (hN _ λb o e=>aA _ (aA _ e))
theorem Mh{Q:Option aa->ab->Prop}(hh:A.handled=none)(x:ItS w I S TP ord o es ep t i s.heap)(hi:i<=ord.length)(hS:S≠I)(hT:TP≠I)
  (hQ:∀v h',ord[i]?=some v->cu I s.heap h'->ItS w I S TP ord o es ep t (i+1) h'->Q (some v) { s with heap:=h' }) (hN:∀h',ord[i]?=none->m7 I s.heap h'->Q none { s with heap:=h' }):
  ag (model prog w) A (pyNext (.ref I)) Q E s:=by
 have ol:=x.ordlen;obtain⟨oi,first,hoi,hci,hdi,hm⟩:=x.it;unfold pyNext;refine ae (wpAny_attempt (jW (name:=hU "__next__") x.ty tP (eV tP x.ty Dy ?_ (EX _))));show ag _ _ (fieldsOf (.ref I)>>=_) _ _ s;refine ae (wpAny_fieldsOf hoi hdi ?_);show ag _ _ (setEntries S>>=_) _ _ s;refine ae ?_;unfold setEntries;refine ae (cc x.at_ x.d x.f ?_);refine ai ?_;dsimp only;rw[aj (by simp)];simp only[eR];have byint:∀(sl:Int) (tk:Tok),first=.int sl tk->(i<=1\/w.params.followText "set-order" = true)->ag (model prog w) A.in1 (do
   let r<-setNext S sl.toNat i ep
   match r with
    |some (x,next)=>do
     setField (Value.ref I) 0 (rawInt ↑next)
     setField (Value.ref I) 1 (rawInt (↑i+1))
     ret x
    |none=>do
     setField (Value.ref I) 2 Value.none
     let e<-newExc (Value.type "StopIteration") []
     raiseNew e) (λfin s'=>∃v,fin=Fin.done (Flow.ret v)/\ag (model prog w) A (pure (some v)) Q E s') (λe s'=>ag (model prog w) A (do if<-isInstance e (.type "StopIteration")then pure none else throw e) Q E s') s:=λsl tk e hi'=>by
  subst e;refine ae (Ht x hm hi' (λv nx ev m=>?_) λev=>?_)
  ·refine ae (fj hoi hdi (by simp) ?_);have g1:=dr (h:=s.heap) (ee (·.setIfInBounds 0 (rawInt (nx:Int)))) hoi (gO (dv hdi _))
   have d1:=dv hdi (·.setIfInBounds 0 (rawInt (nx:Int)))
   refine ae (fj g1 d1 (by simp) ?_);have g2:=dr (ee (·.setIfInBounds 1 (rawInt ((i:Int)+1)))) g1 (gO (dv d1 _))
   have d2:=dv d1 (·.setIfInBounds 1 (rawInt ((i:Int)+1)))
   have sb:=(cp s.heap I (ee (·.setIfInBounds 0 (rawInt (nx:Int))))).trans (cp _ I (ee (·.setIfInBounds 1 (rawInt ((i:Int)+1)))))
   refine ai ⟨v,rfl,ai (hQ v _ ev sb ⟨⟨_,.int nx 0,g2,(iY ..).trans ((iY ..).trans hci),?_,m.mv⟩,?_,x.d,x.f⟩)⟩
   ·rw[d2];simp[rawInt]
   ·rw[sb.2 S hS];exact x.at_
  ·refine ae (fj hoi hdi (by simp) ?_);exact IP (by simp[hh]) λh' k=>hN h' ev λb o hb e=>k b o (by rw[(cp ..).2 b hb];exact e)
 cases hm with
 |txt h1 h2=>exact byint _ _ rfl (.inr h1)
 |one h1 h2 h3 h4 h5 h6=>exact byint _ _ rfl (.inl (by omega))
 |@drw ps vs ot nt h1 h2 h3 h4 h5 h6 h7=>
  show ag _ _ (seqItems? (.ref TP)>>=_) _ _ s;refine ae (jf h2 h4 ?_);have al:∀p∈ps,∃v,(es[p]?.map bf)=some v:=λp hp=>by have:=bo.mp (h6.mem_iff.mp hp);exact⟨es[p].2,by rw[gw this];rfl⟩
  have eg:ord[i]?=ps[i]?.bind λp=>es[p]?.map bf:=by rw[h7];exact Mg _ ps al i
  have ev:vs[i]?=ps[i]?.map λp:Nat=>rawInt p:=by rw[h5,gL,bb]
  cases ep':ps[i]? with
  |none=>
   rw[ep']at ev eg;dsimp only;rw[ev];refine ae (fj hoi hdi (by simp) ?_);have g1:=dr (h:=s.heap) (ee (·.setIfInBounds 0 (rawInt 0))) hoi (gO (dv hdi _))
   have d1:=dv hdi (·.setIfInBounds 0 (rawInt 0))
   refine ae (fj g1 d1 (by simp) ?_);exact IP (by simp[hh]) λh' k=>hN h' eg λb o hb e=>k b o (by rw[(cp ..).2 b hb,(cp ..).2 b hb];exact e)
  |some p=>
   rw[ep']at ev eg;obtain⟨v,e1⟩:=al p (bF ep');dsimp only;rw[ev];show ag _ _ (setNextDrawn S (p:Int).toNat ep>>=_) _ _ s;rw[eR];refine ae ?_;unfold setNextDrawn;refine ae (cc x.at_ x.d x.f ?_);dsimp only;rw[aj (by simp)];cases e2:es[p]? with
   |none=>rw[e2]at e1;cases e1
   |some q=>
    rw[e2]at e1;refine ai ?_;refine ae (fj hoi hdi (by simp) ?_);have g1:=dr (h:=s.heap) (ee (·.setIfInBounds 1 (rawInt ((i:Int)+1)))) hoi (gO (dv hdi _))
    have d1:=dv hdi (·.setIfInBounds 1 (rawInt ((i:Int)+1)))
    have sb:=cp s.heap I (ee (·.setIfInBounds 1 (rawInt ((i:Int)+1))))
    refine ai ⟨_,rfl,ai (hQ _ _ (by rw[eg];show es[p]?.map bf=_;rw[e2];rfl) sb ⟨⟨_,.ref TP,g1,(iY ..).trans hci,?_,.drw h1 (by rw[sb.2 TP hT];exact h2) h3 h4 h5 h6 h7⟩,?_,x.d,x.f⟩)⟩
    ·rw[d1];simp[rawInt]
    ·rw[sb.2 S hS];exact x.at_
end
theorem DA:entryFor table "set_iterator.__iter__" = some dj.«dict_keyiterator.__iter__»:=mm (id':="dict_keyiterator.__iter__") (by kernel_rfl) rfl (by decide +kernel) (by kernel_rfl)
theorem EZ(a:aa):argsOk "set_iterator.__iter__" ⟨[a],[]⟩:=by unfold argsOk;rw[mH (id:="set_iterator.__iter__") (n:=['_','_','r','e','t','i','_','_']) (o:=['r','o','t','a','r','e','t','i','_','t','e','s']) (by kernel_rfl) Gd];kernel_rfl
section
variable{prog:ar}{w:aq}{A:av}{E:aa->ab->Prop}{s:ab}{I S TP:Addr}{ord:List aa}{o:Obj}{es:Array (Int×aa)}{ep:Nat}{t:aW}
theorem Md.at{h:Heap}{f:aa}(m:Md w h S TP i ord es ep t f)(k:∀o,h.get? TP=some o->h'.get? TP=some o):Md w h' S TP i ord es ep t f:=by
 cases m with
 |txt h1 h2=>exact .txt h1 h2
 |one h1 h2 h3 h4 h5 h6=>exact .one h1 h2 h3 h4 h5 h6
 |drw h1 h2 h3 h4 h5 h6 h7=>exact .drw h1 (k _ h2) h3 h4 h5 h6 h7
theorem Tf(hh:A.handled=none)(hS:S≠I)(hT:TP≠I):Walks prog w A I [I,S,TP] [I] ord.length (λi v=>ord[i]?=some v) (λi h=>ItS w I S TP ord o es ep t i h/\i<=ord.length) where
 sub:=λb hb=>by simp at hb;simp[hb]
 frame:=λi h h' st hk=>by obtain⟨⟨⟨oi,f,h1,h2,h3,hm⟩,h4,h5,h6⟩,h7⟩:=st;exact⟨⟨⟨oi,f,hk I (by simp) _ h1,h2,h3,hm.at λo e=>hk TP (by simp) o e⟩,hk S (by simp) _ h4,h5,h6⟩,h7⟩
 item:=λi s Q E hi st hQ=>Mh hh st.1 st.2 hS hT (λv h' ev sb x=>hQ v h' s.toks ev ⟨x,by omega⟩ λb o hb e=>by rw[sb.2 b λz=>hb (by simp[z])];exact e) λh' en _=>by rw[aY hi]at en;cases en
 done:=λs Q E st hQ=>Mh hh st.1 st.2 hS hT (λv h' ev _ _=>by rw[eK (aC _)]at ev;cases ev) λh' _ k=>hQ h' s.toks λb o hb e=>k b o (λz=>hb (by simp[z])) e
 self:=λi s Q E st h=>by refine kX st.1.ty zZ (eV zZ st.1.ty DA ?_ (EZ _));show ag _ _ (ret (.ref I)) _ _ s;exact ai ⟨_,rfl,"set_iterator", _,st.1.ty,tP.lookup,h⟩
end
end L4
namespace L4
open PySem PySem.Spec PySem.Calls PyProof.Rows PySem.W L2 L3
section
variable{prog:ar}{w:aq}{A:av}{E:aa->ab->Prop}{s:ab}
abbrev TkS(k:List Str):List Key:=k.map Sum.inr
end
section
variable{X:Cx}{G:Bg}{H:Hp}{pins:List (Addr×Obj)}{σ:St}{s:ab}
theorem Inv.drw(I:Inv X pins σ H s)(d:Drawn):Inv X pins σ H { s with drawn:=d }:=⟨I.ok,I.os,I.bare,I.base,I.loc,I.cell,I.free,I.freeC,I.pin,I.hok,I.len⟩
theorem VW{A:av}{E:aa->ab->Prop}{Q:aa->ab->Prop}{a:Addr}{L:List (List Str×Addr)}(I:Inv X pins σ H s)(hh:A.handled=none)(hu:A.units+8<cLine)(hq:SqL X.K H a (L.map λq=>V.ref q.2))(h8:L.length<=8)(nd:(L.map bU).Nodup)
  (ht:∀q∈L,∃p r,q.1=[p,r]/\SqT X.K H q.2 [.str p,.str r])
  (h:∀h2 k2 o es ep t,Dx h2 s.heap.objs.size (L.map λq=>(TkS q.1,q.2)) (!X.w.params.followText "set-order") L.length o es ep t->(∀b o,b<s.heap.objs.size->s.heap.get? b=some o->h2.get? b=some o)->Q (.ref s.heap.objs.size) { s with heap:=h2,toks:=k2 }):
  ag (model X.prog X.w) A (call (.type "set") [.ref a]) Q E s:=by
 have h3:A.in1.in1.in1.handled=none:=by simp[hh]
 obtain⟨its,r,pp,_⟩:=I.list hq;obtain⟨o,ho,hc,n,hd⟩:=pp.isList;have hne:a≠s.heap.objs.size+1:=aI (cY (aD ho));have tk:∀q∈L,TK X.prog X.w s.heap (TkS q.1) q.2:=λq hq=>by obtain⟨p,r,e,h1⟩:=ht q hq;rw[e];exact U0 (ks:=[.inr p,.inr r]) I h1
 have li:L.length=its.length:=by have:=r.length;rw[af]at this;exact this
 have ev:∀(i:Nat) (v:aa),its[i]?=some v->∃q,L[i]?=some q/\v=.ref q.2:=λi v e=>by
  have hi:i<L.length:=by rw[li];exact(bE.mp e).1
  obtain⟨u,e2,ru⟩:=r.get (i:=i) (x:=V.ref L[i].2) (by rw[bb,aY hi];rfl);rw[e]at e2;cases e2;exact⟨L[i],aY hi,ru⟩
 have notin:s.heap.objs.size∉[s.heap.objs.size+1,a]:=by
  intro z;rcases aH.mp z with z|z
  ·exact ao z (aI (cD _))
  ·exact ao (aX.mp z) (eh (aD ho))
 let PS:Heap->Prop:=λh2=>∃o es ep t,Dx h2 s.heap.objs.size (L.map λq=>(TkS q.1,q.2)) (!X.w.params.followText "set-order") L.length o es ep t;refine zV (PS:=PS) ho hc jg iF (by decide) (itO:={ cls:=.type "list_iterator", data:=.fields #[.ref a,.int 0 0] })
  (λA Q E s1 e k=>dW ⟨o,e,hc,n,hd⟩ k) (λtk' R hR=>?_) λh2 k2 ⟨o,es,ep,t,x⟩ kk=>h h2 k2 o es ep t x kk
 have ke:∀{b:Addr} {o':Obj},s.heap.get? b=some o'->((s.heap.push (vd (!X.w.params.followText "set-order"))).push { cls:=.type "list_iterator", data:=.fields #[.ref a,.int 0 0] }).get? b=some o':=λe=>aA _ (aA _ e);have it:((s.heap.push (vd (!X.w.params.followText "set-order"))).push { cls:=.type "list_iterator", data:=.fields #[.ref a,.int 0 0] }).get? (s.heap.objs.size+1)=some { cls:=.type "list_iterator", data:=.fields #[.ref a,.int 0 0] }:=by rw[show s.heap.objs.size+1=(s.heap.push (vd (!X.w.params.followText "set-order"))).objs.size from(bZ _ _).symm];exact aU _ rfl
 refine J6 (S:=s.heap.objs.size) (led:=!X.w.params.followText "set-order") (gb h3 _ a hne its.toArray).toS notin (by show A.units+1+1+1<cLine;omega) (L.map λq=>(TkS q.1,q.2)) (by rw[af,aM,li]) (by rw[aM];omega) ?_ ?_ ?_ ?_ (its.toArray.size - 0) 0 _ (vd (!X.w.params.followText "set-order")) #[] 0 (.fresh 0 0 (!X.w.params.followText "set-order")) rfl (bR _) ⟨⟨_,it,rfl,rfl⟩,⟨o,ke ho,hc,n,hd⟩⟩ ?_ ?_ λs2 o2 es2 ep2 t2 mv S2=>?_
 ·rw[aJ,show (bU∘λq:List Str×Addr=>(TkS q.1,q.2))=λq=>TkS q.1 from rfl];have:(L.map λq=>TkS q.1)=(L.map bU).map TkS:=by rw[aJ];rfl
  rw[this];exact pb _ (λx y hxy e=>hxy ((List.map_inj_right λ_ _ h=>jz h).mp e)) nd
 ·intro q hq;obtain⟨r,hr,rfl⟩:=az.mp hq;obtain⟨p,z,e,_⟩:=ht r hr;exact⟨p,[.inr z],by show TkS r.1=_;rw[e];rfl⟩
 ·intro q hq z;obtain⟨r,hr,rfl⟩:=az.mp hq;obtain⟨ob,_,_,e,_⟩:=tk r hr;have:=aD e;rcases aH.mp z with z|z
  ·exact ao z (aI this)
  ·exact ao (aX.mp z) (aI (cY this))
 ·intro i v e;rw[gL]at e;obtain⟨q,e1,e2⟩:=ev i v e;exact⟨(TkS q.1,q.2),by rw[bb,e1];rfl,e2⟩
 ·intro q hq;obtain⟨r,hr,rfl⟩:=az.mp hq;exact(tk r hr).kept λo=>ke
 ·exact⟨aA _ (aU _ rfl),⟨rfl,rfl,rfl⟩,rfl,⟨7,⟨rfl,rfl,rfl⟩,.inl ⟨rfl,by decide⟩⟩,rfl,λz=>ao z (by decide),.nil⟩
 ·obtain⟨h2,g2,d2,k2,o2'⟩:=s2;have eg:g2=s.gens:=mv.gens;have ed:d2=s.drawn:=mv.drawn;have eo:o2'=s.os:=mv.os;subst eg ed eo;have el:its.toArray.size=L.length:=by rw[aM,li]
  rw[el]at S2;refine hR h2 k2 ⟨o2,es2,ep2,t2,S2⟩ λb o hb e=>mv.heap b o (λz=>?_) (ke e);rcases aH.mp z with z|z
  ·exact ao z (aI hb)
  ·exact ao (aX.mp z) (aI (cY hb))
end
section
variable{X:Cx}{G:Bg}{H:Hp}{pins:List (Addr×Obj)}{σ:St}{s:ab}
theorem IQ:∀{ds:List D} {ks:List (List Str)} {xs:List V},pE G H ds xs->A7 ds=some ks->∃L:List (List Str×Addr),xs=L.map (λq=>V.ref q.2)/\ks=L.map bU/\∀q∈L,∃p r,q.1=[p,r]/\SqT G.K H q.2 [.str p,.str r]
 |[],ks,xs,r,e=>by cases e;unfold pE at r;subst r;exact⟨[],rfl,rfl,λq hq=>by cases hq⟩
 |d::ds,ks,xs,r,e=>by
  unfold A7 at e;cases e1:OT d with
  |none=>rw[e1]at e;cases e
  |some k=>
   cases e2:A7 ds with
   |none=>rw[e1,e2]at e;cases e
   |some ks'=>
    rw[e1,e2]at e;cases e;unfold pE at r;obtain⟨v,r',rfl,q1,q2⟩:=r;obtain⟨L,rfl,rfl,h3⟩:=IQ q2 e2;obtain⟨a,p,q,rfl,rfl,h1⟩:=L7 q1 e1;refine⟨([p,q],a)::L,rfl,rfl,λz hz=>?_⟩;rcases aH.mp hz with rfl|hz
    ·exact⟨p,q,rfl,h1⟩
    ·exact h3 z hz
end
noncomputable abbrev cS(s:Str):FE:=cC (.str s)
noncomputable abbrev a1(e:FE):FA:=aCons e qe
section
variable{X:Cx}{G:Bg}{H:Hp}{pins:List (Addr×Obj)}{σ:St}{s:ab}
def Vg(K:ak)(H:Hp)(a:Addr)(n:Nat):Prop:=Rr K H a n\/
 ∃L:List (List Str×Addr),SqL K H a (L.map λq=>V.ref q.2)/\L.length<=8/\(L.map bU).Nodup/\(∀q∈L,∃p r,q.1=[p,r]/\SqT K H q.2 [.str p,.str r])/\n=L.length
theorem Vh:Rt X Vg:=by
 intro pins σ H s A E Q a n I hh hu hq h;rcases hq with hq|⟨L,h1,h8,nd,ht,rfl⟩
 ·exact U1 I hh hu hq h
 ·refine VW I hh hu h1 h8 nd ht λh2 k2 o es ep t x kk=>h h2 k2 ⟨o,es,ep,t,x.at_,x.ex,x.d,?_,x.fits (af _),x.sz.trans (af _)⟩ kk;rw[x.sz,af];unfold scanBound;omega
def zl(ds:List D):Option D:=match A7 ds with
 |some ks=>if ks.Nodup/\ds.length<=8 then some (.int ds.length)else none
 |none=>none
theorem J7(hK:X.K=G.K):∀{ds d H1 H1' a xs},zl ds=some d->SqL X.K H1' a xs->pE G H1 ds xs->pL H1 H1'->∃n:Nat,Vg X.K H1' a n/\d=.int n:=λ{ds d H1 H1' a xs} e hq h2 s=>by
 unfold zl at e;cases e2:A7 ds with
 |none=>simp only[e2]at e;cases e
 |some ks=>
  simp only[e2]at e;split at e
  ·rename_i hc;cases e;obtain⟨L,rfl,rfl,h3⟩:=IQ h2 e2;have hl:=pF h2;rw[af]at hl;refine⟨_,.inr ⟨L,hq,by omega,hc.1,λq hq=>?_,hl⟩,rfl⟩;obtain⟨p,r,e,h4⟩:=h3 q hq;rw[<-hK]at h4;exact⟨p,r,e,SqT.mono s h4⟩
  ·cases e
end
section
variable{X:Cx}{B:Bz}{k:Nat}{e:Expr}{f:FE}{p p2 p3 pos:Pos}
theorem Tg [C:Cz X B k][N:Nb B "len"][N':Nb B "set"](hs:S1 X e)(hg:Gz X "len")(hg':Gz X "set")(ha:ZE X B e f)(z:aw [Expr.Call (.Name "set" p2) [e] [] p3] X.env=[(false,eval (.Call (.Name "set" p2) [e] [] p3) X.env)]):ZE X B (.Call (.Name "len" p) [.Call (.Name "set" p2) [e] [] p3] [] pos) (c1 (zW zl) f):=⟨Hg C.K .inl (J7 C.K) (J0 Vh C.r.units C.c hg (C.mg▸N.p) hg' (C.mg▸N'.p) ha.p z hs)⟩
end
section
variable{X:Cx}{G:Bg}{C:Addr}{x:Str}{p pos:Pos}{e:Expr}{c:Nat}
structure Mk0(K:ak)(C:Addr):Prop where
 makes:makesIn K C=true
 init:findIn K (.ref C) "__init__" = some (some (.builtin "object.__init__"))
 kp:keepIn K (.ref C)=true
theorem J8(M:Mk0 X.K C)(hg:Gl X x)(hm:X.mg x=some (.ref C))(hdb:(x==("__debug__" : Str))=false):PE X (.Call (.Name x p) [] [] pos) (λσ H Q=>∀y dx,H y=none->H dx=none->dx≠y->Q (.ref y) (upd (upd H dx (.own y)) y (.ins C dx []))):=by
 intro pins s σ H Q I h;refine cA (zB I hg hm ?_ hdb);refine jk I.kIn M.kp ?_;have hq:=h (s.heap.objs.size+1) s.heap.objs.size (I.hok.fresh (f7 _)) (I.hok.fresh (aC _)) (aI (cD _));have I2:=Inv.made (C:=C) I;have Y:=jJ (M:=model X.prog X.w) I.kIn M.makes;refine ig (Jv I.kIn M.makes M.init (λself=>Looks.of_pure (oi_bind self)) ?_);have e2:((s.heap.push emptyDict).push (instObj C s.heap.objs.size)).get? (s.heap.objs.size+1)=some (instObj C s.heap.objs.size):=by rw[<-bZ s.heap emptyDict];exact aU _ rfl
 have t2:Looks (model X.prog X.w) ((s.heap.push emptyDict).push (instObj C s.heap.objs.size)) (isInstance (.ref (s.heap.objs.size+1)) (.type "object")) true:=
  ((Looks.ld e2).andThen .now:Looks (model X.prog X.w) _ (typeOf (.ref (s.heap.objs.size+1))) (.ref C)).andThen (Y.top.keeps λb o e=>aA _ (aA _ e))
 refine kh oi_plain entry_oi (check_slot oi_kind oi_split t2 (oi_args _) ?_);rw[oi_run];exact ai (And.intro rfl ⟨V.ref (s.heap.objs.size+1),_,I2,rfl,hq⟩)
def O1(c:Nat):FE:=λρ=>some (.obj c [] [],ρ)
theorem J9(h:PE X e (λσ H Q=>∀y dx,H y=none->H dx=none->dx≠y->Q (.ref y) (upd (upd H dx (.own y)) y (.ins (G.ca c) dx [])))):PE X e (tF G (O1 c)):=PE.weak h λσ H Q hh=>by
 obtain⟨F,ρ,H0,d,ρ',R,e,k⟩:=hh;cases e;intro x dx hx hdx ne;have hx2:(upd H dx (.own x)) x=none:=by rw[pM (λz=>ne z.symm)];exact hx
 have sx:pL H (upd (upd H dx (.own x)) x (.ins (G.ca c) dx [])):=(pX hdx _).trans (pX hx2 _);have R2:=R.grow sx (λ_ _ e=>e) (R.sub.trans sx) (λb o e=>.inl e);have h0:=R.h0none hx;have R3:=R2.freeze pK h0 (R.bNone hx) (λi t ei to z=>R.apart hx i t ei to z);refine k _ _ _ (pX h0 _) R3 ?_;unfold Rep;exact⟨x,dx,[],rfl,pK,rfl,qf⟩
end
section
variable{X:Cx}{B:Bz}{k:Nat}{p pos:Pos}{x:Str}{c:Nat}
class K0f(B:Bz)(x:Str)(c:Nat):Prop where p:Mk0 B.G.K (B.G.ca c)/\B.mg x=some (.ref (B.G.ca c))
theorem Ti [C:Cz X B k][Q:K0f B x c](hg:Gz X x)(hd:(x==("__debug__" : Str))=false):ZE X B (.Call (.Name x p) [] [] pos) (O1 c):=⟨J9 (J8 (by rw[C.K];exact Q.p.1) hg (by rw[C.mg];exact Q.p.2) hd)⟩
end
end L4
namespace L4
open PySem PySem.Spec PyProof.Rows L2 L3
section
variable{X:Cx}{B:Bz}{k j i m:Nat}{x:Str}{e e':Expr}{es:List Expr}{d:D}{p pos:Pos}{g:D->D->Option D}
theorem Vi{l:List Stmt}:ZB X B l Ox:=⟨λpins s σ H D I h=>by
 obtain⟨F,ρ,H0,o,R,e,_⟩:=h;cases e⟩
end
section
variable{X:Cx}{G:Bg}
def cMutT(g:List D->List D->Option (D×List D))(a n:FA):FE:=λρ=>match a ρ with
 |some (ds,ρ1)=>match n ρ1 with
  |some (ns,ρ2)=>match g ns ds with
   |some (d,_)=>some (d,ρ2)
   |none=>none
  |none=>none
 |none=>none
theorem pV.temp{F:Fr}{σ:St}{ρ:List Sl}{H0 H H0' H':Hp}(R:pV G F σ ρ H0 H){b:Addr}{zs:List V}(hb:F.B b=none)(ap:Apart σ ρ b)(s1:pL H0 H0')(s2:pL H0' H')(s3:∀c o,H c=some o->c≠b->H' c=some o)(fr:∀c o,H0' c=some o->H0 c=some o\/H c=none)(hz:H' b=some (.lst zs)):pV G F σ ρ H0' H' where
 sub:=s2
 g0:=R.g0.trans s1
 keep:=λc o e n=>s3 c o (R.keep c o e n) λz=>by rw[z,hb]at e;cases e
 fr:=λc o e=>(fr c o e).elim (R.fr c o) λh=>.inr (R.bNone h)
 am:=λc hc=>by
  obtain⟨o,q⟩:=R.am c hc;by_cases z:c=b
  ·exact⟨_,z▸hz⟩
  ·exact⟨o,s3 c o q z⟩
 len:=R.len
 sl:=λi t e=>(R.sl i t e).grow s1 (λc u z so q=>s3 c u q λw=>ap i t e so (by rw[z,w])) λc u z so q q0=>by
  cases w:H0' c with
  |none=>rfl
  |some o=>
   rcases fr c o w with v|v
   ·rw[v]at q0;cases q0
   ·rw[v]at q;cases q
 ap:=R.ap
end
mutual
def Cv:D->Bool
 |.non=>true
 |.bl _=>true
 |.int _=>true
 |.str _=>true
 |.tup ds=>Cw ds
 |.lst ds=>Cw ds
 |_=>false
def Cw:List D->Bool
 |[]=>true
 |d::ds=>Cv d&&Cw ds
end
mutual
theorem Rep.but{G:Bg}{H H1:Hp}(e:∀b o,H b=some o->(∀u kvs,o≠HO.frz u (.dK kvs))->H1 b=some o):∀(d:D) (v:V),Cv d=true->Rep G H d v->Rep G H1 d v
 |.non,v,_,h=>by unfold Rep at h ⊢;exact h
 |.bl b,v,_,h=>by unfold Rep at h ⊢;exact h
 |.int i,v,_,h=>by unfold Rep at h ⊢;exact h
 |.str x,v,_,h=>by unfold Rep at h ⊢;exact h
 |.tup ds,v,n,h=>by
  unfold Rep at h ⊢;unfold Cv at n;obtain⟨a,xs,rfl,h1,h2⟩:=h;refine⟨a,xs,rfl,?_,pE.but e ds xs n h2⟩;rcases h1 with (h|⟨o,h⟩)|h
  ·exact .inl (.inl (e _ _ h λ_ _ z=>nomatch z))
  ·exact .inl (.inr ⟨o,e _ _ h λ_ _ z=>nomatch z⟩)
  ·exact .inr h
 |.lst ds,v,n,h=>by unfold Rep at h ⊢;unfold Cv at n;obtain⟨a,xs,rfl,h1,h2⟩:=h;exact⟨a,xs,rfl,e _ _ h1 (λ_ _ z=>nomatch z),pE.but e ds xs n h2⟩
 |.fzl ds,v,n,h=>by unfold Cv at n;cases n
 |.obj c ns ds,v,n,h=>by unfold Cv at n;cases n
 |.dic ks ds,v,n,h=>by unfold Cv at n;cases n
theorem pE.but{G:Bg}{H H1:Hp}(e:∀b o,H b=some o->(∀u kvs,o≠HO.frz u (.dK kvs))->H1 b=some o):∀(ds:List D) (xs:List V),Cw ds=true->pE G H ds xs->pE G H1 ds xs
 |[],xs,_,h=>by unfold pE at h ⊢;exact h
 |d::ds,xs,n,h=>by unfold pE at h ⊢;unfold Cw at n;rw[aF]at n;obtain⟨v,r,rfl,h1,h2⟩:=h;exact⟨v,r,rfl,Rep.but e d v n.1 h1,pE.but e ds r n.2 h2⟩
end
section
variable{t:aW}{m n:Nat}
def tM(m:Nat):aW:=⟨m,#[],#[],0,false,0,false⟩
def Wy(m:Nat)(O:Nat->Prop)(j:Nat):Nat->dG->Prop
 |0,_=>False
 |f+1,p=>p.j=j\/(O p.j/\Wy m O j f ((tM m).advance p))
end
section
variable{κ α:Type}[DecidableEq κ]
def uqK(l:List κ):List κ:=l.foldl (λacc k=>if k∈acc then acc else acc++[k]) []
theorem BM:∀(l acc:List κ),acc.Nodup->(l.foldl (λacc k=>if k∈acc then acc else acc++[k]) acc).Nodup/\∀x,x∈l.foldl (λacc k=>if k∈acc then acc else acc++[k]) acc ↔ x∈acc\/x∈l
 |[],acc,h=>⟨h,λx=>⟨.inl,λh=>h.resolve_right (by simp)⟩⟩
 |k::l,acc,h=>by
  rw[fS];split
  ·rename_i hk;obtain⟨h1,h2⟩:=BM l acc h;refine⟨h1,λx=>(h2 x).trans ⟨λh=>h.imp id (aO _),λh=>?_⟩⟩;rcases h with h|h
   ·exact .inl h
   ·rcases aH.mp h with rfl|h
    ·exact .inl hk
    ·exact .inr h
  ·rename_i hk;obtain⟨h1,h2⟩:=BM l (acc++[k]) (bJ.mpr ⟨h,dD.mpr ⟨bX,.nil⟩,λa ha b hb e=>hk (by rw[<-aX.mp hb,<- e];exact ha)⟩);refine⟨h1,λx=>(h2 x).trans ?_⟩;rw[aQ,aX,aH,or_assoc]
theorem Hu(l:List κ):(uqK l).Nodup:=(BM l [] .nil).1
theorem E1{l:List κ}{x:κ}:x∈uqK l ↔ x∈l:=((BM l [] .nil).2 x).trans ⟨λh=>h.resolve_left (by simp),.inr⟩
end
end L4
namespace L4
open PySem PySem.Spec PySem.Calls PyProof.Rows PySem.W L2 L3
variable{a:Addr}
section
variable{prog:ar}{w:aq}{A:av}{E:aa->ab->Prop}{s:ab}
theorem Ka{Q:Int->ab->Prop}(h:Q 0xFCA86420 { s with toks:=s.toks+1 }):ag (model prog w) A (pyHash .none) Q E s:=by
 show ag _ _ (pyHashByItsType .none) Q E s;unfold pyHashByItsType;refine ae ?_;rw[cRoomFor,aj (by rw[show [Value.none].any Value.onHeap=false from rfl];exact aT)];refine ai ?_;refine ae (eZ (ic s) gR.lookup ?_);show ag _ _ (if (some (Value.builtin "NoneType.__hash__")==some Value.none)=true then _ else _) Q E s;rw[aj (by rw[beq_builtin_none];exact aT)];refine ae (eZ (ic s) gR.lookup ?_);show ag _ _ (callSpecialIfBoundUnlessNone? .none "__hash__" _>>=_) Q E s;refine ae (wpAny_callSpecialIfBoundUnlessNone?_slot (ic s) gR
  (eV gR (ic s) F.entry_NoneType_hash
   (show ag _ _ (do ret (<-mkInt 0xFCA86420)) _ _ s from wpAny_ret_mkInt ?_) (F.args_NoneType_hash_1 _)))
 exact ai h
theorem O2{Q:Bool->ab->Prop}(h:Q true s):ag (model prog w) A (eqBool .none .none) Q E s:=by unfold eqBool;refine bu ?_;rw[ah (show (Value.none==Value.none)=true from rfl)];exact ae (fB (ai h))
def oIs:Option Key->aa->Bool
 |none,.none=>true
 |none,_=>false
 |some k,v=>BO k v
theorem uU{k:Option Key}{v:aa}(h:oIs k v=true):(k=none/\v=.none)\/(∃i t,k=some (Sum.inl i)/\v=Value.int i t)\/∃x t,k=some (Sum.inr x)/\v=Value.str x t:=by
 cases k with
 |none=>cases v<;>first|exact .inl ⟨rfl,rfl⟩|cases h
 |some k=>
  rcases qE (k:=k) h with ⟨i,t,rfl,rfl⟩|⟨x,t,rfl,rfl⟩
  ·exact .inr (.inl ⟨i,t,rfl,rfl⟩)
  ·exact .inr (.inr ⟨x,t,rfl,rfl⟩)
def optKind(prog:ar)(w:aq):mr prog w (Option Key) where
 is:=oIs
 hash:=λk=>match k with|none=>0xFCA86420|some k=>TX w k
 inj:=λv a b ha hb=>by rcases uU ha with ⟨rfl,rfl⟩|⟨i,t,rfl,rfl⟩|⟨x,t,rfl,rfl⟩<;>rcases uU hb with ⟨rfl,e⟩|⟨j,u,rfl,e⟩|⟨y,u,rfl,e⟩<;>first|rfl|(cases e;rfl)|cases e
 byValue:=λk v h=>by rcases uU h with ⟨rfl,rfl⟩|⟨i,t,rfl,rfl⟩|⟨x,t,rfl,rfl⟩<;>rfl
 pyHash:=λ{A E s k v Q} hv h=>by
  cases k with
  |some k=>exact(pZ prog w).pyHash (k:=k) hv h
  |none=>
   rcases uU hv with ⟨_,rfl⟩|⟨i,t,e,_⟩|⟨x,t,e,_⟩
   ·exact Ka h
   ·cases e
   ·cases e
 eqBool:=λ{A E s a b u v Q} hu hv h=>by
  rcases uU hu with ⟨rfl,rfl⟩|⟨i,t,rfl,rfl⟩|⟨x,t,rfl,rfl⟩<;>rcases uU hv with ⟨rfl,rfl⟩|⟨j,u,rfl,rfl⟩|⟨y,u,rfl,rfl⟩
  ·exact O2 h
  ·exact kn j u _ _ _ _ h
  ·exact ko y u _ _ _ _ h
  ·exact kq i t _ _ _ _ h
  ·exact(pZ prog w).eqBool (a:=Sum.inl i) (b:=Sum.inl j) hu hv (by simpa using h)
  ·exact(pZ prog w).eqBool (a:=Sum.inl i) (b:=Sum.inr y) hu hv (by simpa using h)
  ·exact kr x t _ _ _ _ h
  ·exact(pZ prog w).eqBool (a:=Sum.inr x) (b:=Sum.inl j) hu hv (by simpa using h)
  ·exact(pZ prog w).eqBool (a:=Sum.inr x) (b:=Sum.inr y) hu hv (by simpa using h)
 «strs»:=λk x t v h=>by
  cases k with
  |none=>cases h
  |some k=>exact(pZ prog w).strs k x t v h
theorem O3{h:Heap}{f:Key->Option aa}(m:h.MapOf (pZ prog w) a f):h.MapOf (optKind prog w) a (λk=>match k with|none=>none|some k=>f k):=by
 obtain⟨o,es,ep,h1,h2,h3,h4,h5⟩:=m;refine⟨o,es,ep,h1,h2,h3,λe he=>?_,λk=>?_⟩
 ·obtain⟨k,k1,k2⟩:=h4 e he;exact⟨some k,k1,k2⟩
 ·cases k with
  |some k=>exact h5 k
  |none=>
   unfold findBy;rw[Array.find?_eq_none.mpr λe he=>?_]
   ·rfl
   ·obtain⟨k,k1,_⟩:=h4 e he;rcases qE k1 with ⟨i,t,_,e1⟩|⟨x,t,_,e1⟩<;>(rw[e1];exact aT)
end
variable{Q:aa->ab->Prop}{e:Expr}{apos cpos:Pos}{f:FE}
section
variable{X:Cx}{G:Bg}{H:Hp}{pins:List (Addr×Obj)}{σ:St}{s:ab}
theorem Tj{A:av}{E:aa->ab->Prop}{kvs:List (Key×V)}(I:Inv X pins σ H s)(e:Rd H a (.dK kvs))(h:∀s',Inv X pins σ H s'->Q .none s'):ag (model X.prog X.w) A (call (.builtin "dict.get") [.ref a,.none]) Q E s:=by obtain⟨z,hd,vs,rel,dd⟩:=BY I.hok e;exact hZ fT dd.typeIs i3 (iQ _ _) (mf (optKind X.prog X.w) a (k:=none) rfl hd) ⟨_,O3 dd.mapOf,h _ (I.tok _)⟩
def Tn(td ty:TE):TE:=λσ H Q=>td σ H λx H1=>∃a,x=.ref a/\IsD H1 a/\ty σ H1 λy H2=>(∃o,DGet H2 a y o/\Q (o.getD .non) H2)\/(y=.non/\(∃kvs,Rd H2 a (.dK kvs))/\Q .non H2)
theorem Mi{o:Expr}{td ty:TE}(hu:X.A.units+1<cLine)(ho:PE X o td)(he:PE X e ty)(m:M1 X o "get" apos e cpos):PE X (.Call (.Attribute o "get" apos) [e] [] cpos) (Tn td ty):=by
 intro pins s σ H Q I h;refine iR m.base m.few m.line iU fT lS (thn (ho pins s σ H _ I h) λu s1 hh=>?_);obtain⟨x,H1,I1,rx,a,ex,d,q1⟩:=hh;subst ex;obtain rfl:u=Value.ref a:=rx;obtain⟨t1,t2,_⟩:=GV I1 d;refine⟨t1,t2,?_⟩;rw[m.trees];refine fG rfl (gQ (dU (thn (he pins s1 σ H1 _ I1 q1) λiv s2 hh=>eQ ?_)));obtain⟨y,H2,I2,ry,⟨ov,g,q2⟩|⟨rfl,⟨kvs,e⟩,q2⟩⟩:=hh
 ·exact KN hu I2 g ry λw' s3 I3 rw'=>⟨_,H2,I3,rw',q2⟩
 ·obtain rfl:iv=.none:=ry;exact Tj I2 e λs3 I3=>⟨.non,H2,I3,rfl,q2⟩
def Ge:D->D->Option D:=λx y=>match y with
 |.non=>match x with
  |.dic _ _=>some .non
  |_=>none
 |y=>xJ x y
theorem Mj{a b:Expr}{f':FE}(hu:X.A.units+1<cLine)(ha:PE X a (tF G f))(hb:PE X b (tF G f'))(m:M1 X a "get" apos b cpos):PE X (.Call (.Attribute a "get" apos) [b] [] cpos) (tF G (c2 Ge f f')):=PE.weak (Mi hu ha hb m) λσ H Q hh=>by
 obtain⟨F,ρ,H0,d,ρ',R,e,k⟩:=hh;obtain⟨x,y,ρ1,e1,e2,e3⟩:=BG e;cases x with
 |dic ks ds=>
  refine⟨F,ρ,H0,_,ρ1,R,e1,λv H1 H1' s1 R1 r1=>?_⟩;have r1':=r1;unfold Rep at r1';obtain⟨p,ob,xs,rfl,h1,h2,h3⟩:=r1';refine⟨p,rfl,.inl ⟨_,.inr ⟨_,R1.sub _ _ h1⟩⟩,F,ρ1,H1,y,ρ',R1,e2,λu H2 H2' s2 R2 r2=>?_⟩;by_cases hy:y=.non
  ·subst hy;cases e3;unfold Rep at r2;subst r2;exact .inr ⟨rfl,⟨_,.inr ⟨_,R2.sub _ _ (s2 _ _ h1)⟩⟩,k _ H2 H2' (s1.trans s2) R2 uK⟩
  ·left;have e3:xJ (.dic ks ds) y=some d:=by
    unfold Ge at e3;split at e3
    ·exact ao rfl hy
    ·exact e3
   unfold xJ at e3;cases ek:yV y with
   |none=>simp only[ek]at e3;cases e3
   |some j=>
    simp only[ek]at e3;cases e3;have lv:=zU (ks:=ks) j (pE.mono s2 _ _ h3) h2;refine⟨tY (ks.zip xs) j,?_,?_⟩
    ·rw[yL r2 ek];exact DGet.kf (R2.sub _ _ (s2 _ _ h1))
    ·cases el:vH ks ds j with
     |none=>rw[el]at lv k;rw[lv];exact k _ H2 H2' (s1.trans s2) R2 uK
     |some z=>rw[el]at lv k;obtain⟨w,w1,w2⟩:=lv;rw[w1];exact k _ H2 H2' (s1.trans s2) R2 w2
 |_=>
  unfold Ge at e3;split at e3
  ·cases e3
  ·unfold xJ at e3;cases e3
end
section
variable{X:Cx}{B:Bz}{k:Nat}{e e':Expr}{f f':FE}{apos pos:Pos}
theorem To [C:Cz X B k](ha:ZE X B e f)(hb:ZE X B e' f')(h1:Az X e "get")(h2:Ez apos pos)(h3:S1 X e'):ZE X B (.Call (.Attribute e "get" apos) [e'] [] pos) (c2 Ge f f'):=⟨Mj (Ik C.r) ha.p hb.p ⟨h1,by rw[h3];rfl,h2,by rw[h3];rfl⟩⟩
end
section
variable{X:Cx}{G:Bg}
def dStrI:D->Option D
 |.int i=>if i.natAbs.log2<1920 then some (.str (toString i))else none
 |_=>none
theorem cd_str:Cd G (λxs H Q=>∃i,xs=[.int i]/\i.natAbs.log2<1920/\Q (.str (toString i)) H) dStrI:=λx z H0 H v Q e s rx k=>by
 cases x with
 |int i=>
  rw[show dStrI (.int i)=if i.natAbs.log2<1920 then some (.str (toString i))else none from rfl]at e;split at e
  ·rename_i hi;cases e;unfold Rep at rx;subst rx;exact⟨i,rfl,hi,k _ λ_ _=>uJ _⟩
  ·cases e
 |_=>cases e
end
section
variable{X:Cx}{B:Bz}{k:Nat}{e e' tg:Expr}{f f':FE}{p p2 p3 pos apos:Pos}
theorem zr_srI [C:Cz X B k][N:Nb B "str"](hg:Gz X "str")(hs:S1 X e)(ha:ZE X B e f):ZE X B (.Call (.Name "str" p) [e] [] pos) (c1 dStrI f):=⟨Lm cd_str (ctI hg (by decide) hs Ex (by decide +kernel) (uZ ha.p wZ hs))⟩
end
def tOr(t t':Ty->Option Bool):Ty->Option Bool:=λy=>match t y with
 |some true=>match t' y with
  |some _=>some true
  |none=>none
 |some false=>t' y
 |none=>none
variable{t t':Ty->Option Bool}
theorem inst_or{G:Bg}{c c':Nat}(h:Ck G c t)(h':Ck G c' t'):ID G [c,c'] (tOr t t'):=by
 refine⟨λy b e=>?_,λj b e=>?_⟩
 ·unfold tOr at e;show kitAny G.K (y.val G) [.ref (G.ca c),.ref (G.ca c')]=some b;unfold kitAny;cases e1:t y with
  |none=>simp only[e1]at e;cases e
  |some v=>
   simp only[e1]at e;rw[h.1 y v e1];cases v with
   |true=>
    cases e2:t' y with
    |none=>simp only[e2]at e;cases e
    |some w=>simp only[e2]at e;cases e;rfl
   |false=>simp only at e;unfold kitAny;simp only;rw[h'.1 y b e];cases b<;>rfl
 ·unfold tOr at e;cases e1:t (.c j)with
  |none=>simp only[e1]at e;cases e
  |some v=>exact h.2 j v e1
section
variable{X:Cx}{B:Bz}{k:Nat}{e:Expr}{f:FE}{p p2 p3 p4 pos:Pos}{x y:Str}
theorem zr_i2I{z1}[Q:Ic B x t][Q':Ic B y t'][C:Cz X B k][N:Nb B "isinstance"](hi:Gz X "isinstance")(hg:Gz X x)(hg':Gz X y)(hs:aw [e,.Tuple [.Name x p2,.Name y p3] z1 p4] X.env=[(false,eval e X.env),(false,eval (.Tuple [.Name x p2,.Name y p3] z1 p4) X.env)])(hs':S1 X (.Tuple [.Name x p2,.Name y p3] z1 p4))(hs2:aw [.Name x p2,.Name y p3] X.env=[(false,eval (.Name x p2) X.env),(false,eval (.Name y p3) X.env)])(hs3:S1 X (.Name y p3))(ha:ZE X B e f)(hd:Dz x)(hd':Dz y):ZE X B (.Call (.Name "isinstance" p) [e,.Tuple [.Name x p2,.Name y p3] z1 p4] [] pos) (c1 (qC (tOr t t')) f):=by
 obtain⟨c,q1,q2⟩:=Q.p;obtain⟨c',r1,r2⟩:=Q'.p;refine⟨LJ (cs:=[c,c']) (zE (G9 (inst_or q1 r1) C.K) hi (C.mg▸N.p) jd (rj ha.p (rj (Kz (rj (BD (v:=.ref (B.G.ca c)) hg (C.mg▸q2) rfl hd) (rj (BD (v:=.ref (B.G.ca c')) hg' (C.mg▸r2) rfl hd') uv hs3) ?_)) uv hs') ?_) (by decide) (by decide) ?_ ?_) (by show 2<=1000;decide)⟩
 ·rw[hs2,hs3]
 ·rw[hs,hs']
 ·rw[hs,hs']
 ·rw[hs'];rfl
end
section
variable{X:Cx}{G:Bg}
theorem reps_mem{K:ak}{H:Hp}:∀{l:List L3.Dq} {xs:List V} {us:List aa},L3.pE K H l xs->Vals xs us->(∀u∈us,∃e∈l,∃x,L3.Rep K H e x/\RelV x u)/\∀e∈l,∃u∈us,∃x,L3.Rep K H e x/\RelV x u
 |[],xs,us,r,v=>by unfold L3.pE at r;subst r;cases v;exact⟨λu hu=>(by cases hu),λe he=>(by cases he)⟩
 |d::l,xs,us,r,v=>by
  unfold L3.pE at r;obtain⟨x,r',rfl,h1,h2⟩:=r;cases v with
  |cons v1 v2=>
   obtain⟨q1,q2⟩:=reps_mem h2 v2;refine⟨λu hu=>?_,λe he=>?_⟩
   ·rcases aH.mp hu with rfl|hu
    ·exact⟨d,aP,x,h1,v1⟩
    ·obtain⟨e,he,z⟩:=q1 u hu;exact⟨e,aO _ he,z⟩
   ·rcases aH.mp he with rfl|he
    ·exact⟨_,aP,x,h1,v1⟩
    ·obtain⟨u,hu,z⟩:=q2 e he;exact⟨u,aO _ hu,z⟩
end
section
variable{X:Cx}{B:Bz}{k i:Nat}{e:Expr}{f:FE}{a:FA}{x:Str}{p p2 p3 pos apos:Pos}
theorem zr_xsI{j:Int}{jj}(h:sees X i x=true)(he:ZE X B e f)(hs:swapsWithSole [.Subscript (.Name x p) (.Constant (.int j) jj p2) p3] e pos.line X.env=pure false)(hw:swappedStores [.Subscript (.Name x p) (.Constant (.int j) jj p2) p3] e X.env=pure none)
  (h1:(bD [.Subscript (.Name x p) (.Constant (.int j) jj p2) p3] X.env).map (·.2)=[assign (.Subscript (.Name x p) (.Constant (.int j) jj p2) p3) X.env]):ZS X B (.Assign [.Subscript (.Name x p) (.Constant (.int j) jj p2) p3] e pos) (vU i j f):=⟨JW (Ko he.p (Qd (pvI h) Et set_list) hs hw h1)⟩
theorem zr_xeI [C:Cz X B k](h:sees X i x=true)(hb:Az X (.Name x p) "extend")(hl:Ez apos pos)(hs:S1 X e)(ha:ZN X B e a):ZE X B (.Call (.Attribute (.Name x p) "extend" apos) [e] [] pos) (Bw i a):=
 ⟨JO (bmI hb hl hs fP gU kJ JA (pvI h) (rj ha.p uv hs))⟩
end
section
variable{B:Bz}[Y:Yb B]{k np n:Nat}{b:FS}{x p:Str}{ps:List Str}{st s0:Stmt}{l:List Stmt}
theorem gM5(N:List Str){g:List D->List D->Option (D×List D)}(hg:g=fnM np n b)(q:GD B.G.K x st)(hl:qo st=s0::l)(hp:psO st=p::ps)(body:Bdz B N x st (s0::l) k b)(S:okO N (p::ps) st (np+1) n=true:=by kernel_rfl)(bd:Bds x x st (p::ps):=by (repeat intro _);rfl):Df B (k+1) x (spM B.G g):=
 ⟨_,gM hg Y.y q (okk S).1 (body.ok hl) (fZ (okk S).2.1) (okk S).2.2 bd⟩
end
def sOf:aa->Str
 |.str x _=>x
 |_=>""
structure SetX(w:aq)(h:Heap)(S:Addr)(ss:List Str)(led:Bool)(o:Obj)(es:Array (Int×aa))(ep:Nat)(t:aW):Prop where
 at_:h.get? S=some o
 ex:o.ExactSet
 d:o.data=.set es ep t
 f:t.fits es.size=true
 led:t.led=led
 pl:0<ss.length->t.plain=false
 el:∀e∈es.toList,∃x tk,e=(hashStr w x,Value.str x tk)
 p:(es.toList.map λe=>sOf e.2).Perm ss
variable{ss:List Str}{led:Bool}{o:Obj}{es:Array (Int×aa)}{ep:Nat}
theorem SetX.sz{w:aq}{h:Heap}{S:Addr}{t:aW}(x:SetX w h S ss led o es ep t):es.size=ss.length:=by have:=x.p.length_eq;rw[af,bh]at this;exact this
theorem lay_led(t:aW)(es:Array (Int×aa))(h:Int)(x:aa):(layNew t es h x).2.1.led=t.led/\(t.plain=false->(layNew t es h x).2.1.plain=false):=by
 unfold layNew;split
 ·rename_i sl wd e;show ((t.put sl).1.orStandIn _).led=_/\(_->((t.put sl).1.orStandIn _).plain=false);unfold SetTable.orStandIn;split
  ·exact⟨rfl,id⟩
  ·exact⟨rfl,λ_=>rfl⟩
 ·exact⟨rfl,λ_=>rfl⟩
theorem relay_led(t:aW)(es:Array (Int×aa))(n:Nat):(relayAll t es n).2.1.led=t.led/\(t.plain=false->(relayAll t es n).2.1.plain=false):=by
 unfold relayAll;split
 ·rename_i t' order e;unfold SetTable.relaid jn at e;obtain⟨ow,_,e⟩:=gB.mp e;cases e;dsimp only;split
  ·exact⟨rfl,id⟩
  ·exact⟨rfl,λ_=>rfl⟩
 ·exact⟨rfl,λ_=>rfl⟩
variable{ss':List Str}
section
variable{prog:ar}{w:aq}{A:av}{E:aa->ab->Prop}{s:ab}{S:Addr}{o:Obj}{es:Array (Int×aa)}{ep:Nat}{t:aW}{ss:List Str}{led:Bool}
theorem SetX.elems(x:SetX w s.heap S ss led o es ep t):ElemsOf (cI prog w) es.toList:=λe he=>by obtain⟨z,tk,rfl⟩:=x.el e he;exact⟨⟨z,by simp[cI,fm],rfl⟩,rfl⟩
theorem SetX.mem(x:SetX w s.heap S ss led o es ep t)(z:Str):z∈ss ↔ ∃e∈es.toList,(cI prog w).is z e.2=true:=by
 rw[<-x.p.mem_iff,az];constructor
 ·rintro⟨e,he,rfl⟩;obtain⟨y,tk,rfl⟩:=x.el e he;exact⟨_,he,by simp[cI,fm,sOf]⟩
 ·rintro⟨e,he,h⟩;obtain⟨y,tk,rfl⟩:=x.el e he;exact⟨_,he,by simpa [cI,fm,sOf]using h⟩
theorem SetX.stored(x:SetX w s.heap S ss led o es ep t){es':Array (Int×aa)}{t':aW}(f:t'.fits es'.size=true)(l:t'.led=led)(pl:0<ss'.length->t'.plain=false)(el:∀e∈es'.toList,∃x tk,e=(hashStr w x,Value.str x tk))(p:(es'.toList.map λe=>sOf e.2).Perm ss'):
  SetX w (s.heap.update S (fA es' t')) S ss' led { o with data:=.set es' (ep+1) t' } es' (ep+1) t':=
 ⟨He x.at_ x.d,x.ex,rfl,f,l,pl,el,p⟩
theorem tail_x{g:Bool->Sem Unit}(hg:∀(b:Bool) (s₁:ab) (Q':Unit->ab->Prop),Q' () s₁->ag (model prog w) A (g b) Q' E s₁)(X:SetX w s.heap S ss led o es ep t)
  {es1:Array (Int×aa)} {t2:aW} (f:t2.fits es1.size=true) (l:t2.led=led) (pl:t2.plain=false) (el:∀e∈es1.toList,∃x tk,e=(hashStr w x,Value.str x tk)) (p:(es1.toList.map λe=>sOf e.2).Perm ss') (hb:es1.size<scanBound)
  {wasDummy:Bool} {R:Option Bool->ab->Prop} (h:∀h' o' es' ep' t',cu S s.heap h'->SetX w h' S ss' led o' es' ep' t'->R (some true) { s with heap:=h' }):
  ag (model prog w) A (do
    storeSet S es1 t2
    if (!wasDummy&&t2.tooFull)=true then do
      g (relayAll t2 es1 (cH es1.size)).2.2
      storeSet S (relayAll t2 es1 (cH es1.size)).1 (relayAll t2 es1 (cH es1.size)).2.1
      pure (some true)
     else pure (some true)) R E s:=by
 refine ae (gX X.at_ X.d ?_ (kY hb));have X1:=X.stored (ss':=ss') f l (λ_=>pl) el p;have hsb1:=cp s.heap S (fA es1 t2);split
 ·have hp:=relayAll_perm t2 es1 (cH es1.size);have hfr:=relayAll_fits t2 es1 (cH es1.size);have hl:=relay_led t2 es1 (cH es1.size);generalize relayAll t2 es1 (cH es1.size)=Rl at hp hfr hl ⊢;obtain⟨es2,t3,gave2⟩:=Rl;dsimp only at hp hfr hl ⊢;have hsz:es2.size=es1.size:=by rw[<-bh,hp.length_eq,bh]
  refine ae (hg _ _ _ ?_);refine ae (gX X1.at_ X1.d ?_ (kY (by rw[hsz];exact hb)));exact ai (h _ _ _ _ _ (hsb1.trans (cp _ S _)) (SetX.stored (s:={ s with heap:=s.heap.update S (fA es1 t2) }) (ss':=ss') X1 hfr (hl.1.trans l) (λ_=>hl.2 pl) (λe he=>el e (hp.mem_iff.mp he)) ((hp.map _).trans p)))
 ·exact ai (h _ _ _ _ _ hsb1 X1)
theorem add_x{x:Str}{tk:Tok}{Q:Bool->ab->Prop}(X:SetX w s.heap S ss led o es ep t)(hb:ss.length+1<scanBound)
  (h1:x∈ss->Q false s)
  (h2:x∉ss->∀h' o' es' ep' t',cu S s.heap h'->SetX w h' S (ss++[x]) led o' es' ep' t'->Q true { s with heap:=h' }):ag (model prog w) A (setAddHashed S (.str x tk) (hashStr w x)) Q E s:=by
 have sz:=X.sz;have hkey:(cI prog w).is x (.str x tk)=true:=by simp[cI,fm]
 unfold setAddHashed setAddHashedIn;refine bu (ae (cc X.at_ X.d X.f ?_));dsimp only;rw[byScan_of (knd:=cI prog w) rfl (by omega) X.elems];simp only[↓reduceIte];unfold setAddByScan;refine ae ?_;refine ae (fB ?_);refine ae (wpAny_setScan_of (knd:=cI prog w) hkey X.at_ X.d X.f X.elems ?_);cases hr:List.findIdx? (λe=>(cI prog w).is x e.2) es.toList with
 |some j=>dsimp only;obtain⟨hj,hpj,_⟩:=List.findIdx?_eq_some_iff_getElem.mp hr;exact ai (ai (h1 ((X.mem (prog:=prog) x).mpr ⟨es.toList[j],dX hj,hpj⟩)))
 |none=>
  dsimp only;have nin:x∉ss:=λhx=>by obtain⟨e,he,hp⟩:=(X.mem (prog:=prog) x).mp hx;have:=List.findIdx?_eq_none_iff.mp hr e he;rw[hp]at this;exact Bool.noConfusion this
  have hgw:∀(b:Bool) {s₁:ab} {Q':Unit->ab->Prop},Q' () s₁->ag (model prog w) A (match b with|true=>rule "set.scan.the-table-gave-way" |false=>pure ()) Q' E s₁:=
   λb s₁ Q' hq=>by cases b<;>first|exact ai hq|exact fB hq
  have hperm:=layNew_perm t es (hashStr w x) (.str x tk);have hfits:=layNew_fits t es (hashStr w x) (.str x tk);have hled:=lay_led t es (hashStr w x) (.str x tk);show ag _ _ (match layNew t es (hashStr w x) (.str x tk)with|(es,t,wasDummy,gave)=>_) _ _ _;generalize layNew t es (hashStr w x) (.str x tk)=L at hperm hfits hled ⊢;obtain⟨es1,t1,wasDummy,gave⟩:=L;dsimp only at hperm hfits hled ⊢;rw[iX]at hperm;have el1:∀e∈es1.toList,∃x tk,e=(hashStr w x,Value.str x tk):=λe he=>by
   rcases aQ.mp (hperm.mem_iff.mp he)with he|he
   ·exact X.el e he
   ·rw[aX]at he;exact⟨x,tk,he⟩
  have p1:(es1.toList.map λe=>sOf e.2).Perm (ss++[x]):=by have:=hperm.map λe:Int×aa=>sOf e.2;rw[aS]at this;exact this.trans (X.p.append_right _)
  have hb1:es1.size<scanBound:=by rw[<-bh,hperm.length_eq,au,bh,sz];exact hb
  refine ae (hgw _ ?_);have end_:∀(h':Heap) (o':Obj) (es':Array (Int×aa)) (ep':Nat) (t':aW),cu S s.heap h'->SetX w h' S (ss++[x]) led o' es' ep' t'->Q true { s with heap:=h' }:=h2 nin;split
  ·refine ae ?_;rw[hashByValue_scannable 8 rfl];refine ai ?_;show ag _ _ (storeSet S es1 { t1 with plain:=false }>>=_) _ _ _;refine tail_x ?_ X (SetTable.fits_plain_off hfits) (hled.1.trans X.led) rfl el1 p1 hb1 ?_
   ·intro b s₁ Q' hq;cases b<;>first|exact ai hq|exact fB hq
   ·intro h' o' es' ep' t' sb X';dsimp only;exact ai (end_ h' o' es' ep' t' sb X')
  ·rename_i hpl;refine ae (ai ?_);simp only[↓reduceIte];refine tail_x ?_ X hfits (hled.1.trans X.led) (by simpa using hpl) el1 p1 hb1 ?_
   ·intro b s₁ Q' hq;cases b<;>first|exact ai hq|exact fB hq
   ·intro h' o' es' ep' t' sb X';dsimp only;exact ai (end_ h' o' es' ep' t' sb X')
end
section
variable{prog:ar}{w:aq}{A:av}{E:aa->ab->Prop}{s:ab}{S:Addr}{o:Obj}{es:Array (Int×aa)}{ep:Nat}{t:aW}
theorem iter_X(x:SetX w s.heap S ss (!w.params.followText "set-order") o es ep t)(hl:ss.length<64)
  (hQ:∀(h':Heap) (I TP:Addr) (ord:List aa) (d:Drawn),s.heap.objs.size<=I->I<h'.objs.size->TP≠I->(TP=S\/s.heap.objs.size<=TP)->(∀b o,s.heap.get? b=some o->h'.get? b=some o)->ItS w I S TP ord o es ep t 0 h'->ord.Perm (es.toList.map bf)->Q (.ref I) { s with heap:=h',drawn:=d }):
  ag (model prog w) A (pyIter (.ref S)) Q E s:=by
 have hf:=x.f;have ty:s.TypeIs (.ref S) "set" := ⟨o,x.at_,x.ex.1⟩;have hlt:=aD x.at_;refine kX ty l5 (eV l5 ty EY ?_ (F.args_set_iter_1 _));unfold dj.«frozenset.__iter__»;refine ae (m:=oh _ _) (ai ?_);refine ae ?_;unfold oe setEntries;refine ae (ae (cc x.at_ x.d hf (ai ?_)));refine ai ?_;refine ae ?_;unfold setDrawn;refine ae (cc x.at_ x.d hf ?_);dsimp only;refine ae (AC ?_);refine ai ?_;have plain0:(w.params.followText "set-order" = true\/(w.params.followText "set-order" = false/\es.size<=1))->ag (model prog w) A.in1 (do
   let first<-pure (rawInt 0)
   let e<-setEpoch S;let r<-newFields "set_iterator" [first,rawInt 0,Value.ref S,rawInt ↑es.size,rawInt ↑e]
   ret r) (λfin s'=>∃v,fin=Fin.done (Flow.ret v)/\∃T' r,s'.TypeIs v T'/\typeLookup (Value.type T') (hU "__next__")=pure (some r)/\Q v s') E s:=λc=>by
  refine ae (ai ?_);refine ae (kZ x.at_ x.d hf ?_);refine ae (cB ?_);have kk:∀(o':Obj) (b:Addr) (o:Obj),s.heap.get? b=some o->(s.heap.push o').get? b=some o:=λo' b o e=>aA _ e;have it:∀ord,Md w (s.heap.push { cls:=.type "set_iterator", data:=.fields [rawInt 0,rawInt 0,Value.ref S,rawInt ↑es.size,rawInt ↑ep].toArray }) S S 0 ord es ep t (.int 0 0)->ord.Perm (es.toList.map bf)->_:=λord m p=>ai (M:=model prog w) (A:=A.in1) (E:=E) (Q:=λfin s'=>∃v,fin=Fin.done (Flow.ret v)/\∃T' r,s'.TypeIs v T'/\typeLookup (Value.type T') (hU "__next__")=pure (some r)/\Q v s') ⟨.ref s.heap.objs.size,rfl,"set_iterator", _,⟨_,aU _ rfl,rfl⟩,tP.lookup,hQ _ s.heap.objs.size S ord s.drawn (aC _) (by rw[bZ];exact cD _) (aI hlt) (.inl rfl) (kk _) ⟨⟨_,.int 0 0,aU _ rfl,rfl,rfl,m⟩,kk _ _ _ x.at_,x.d,hf⟩ p⟩;rcases c with c|⟨c1,c2⟩
  ·exact it _ (.txt c rfl) ((D3 _ es).map _)
  ·exact it _ (.one c1 c2 (by rw[x.led,c1];rfl) (λ_=>rfl) (λj e=>by cases e) rfl) (.refl _)
 cases c:w.params.followText "set-order" with
 |true=>rw[aj (by simp)];exact plain0 (.inl c)
 |false=>
  by_cases h1:es.size<=1
  ·rw[aj λhh=>by
    have:(!false&&(!t.plain&&decide (es.size > 1)))=true:=hh;simp at this;omega]
   exact plain0 (.inr ⟨c,h1⟩)
  ·have pl:t.plain=false:=x.pl (by have:=x.sz;omega);rw[ah (by show (!false&&(!t.plain&&decide (es.size > 1)))=true;rw[pl];simp;omega)];refine ae (IM es.size _ s cb λys d p=>?_);refine ae (wpAny_newTuple ?_ (by
    rw[af,p.length_eq,cb,x.sz,bK];omega))
   refine ae (kZ (aA _ x.at_) x.d hf ?_);refine ae (cB ?_);have kk:∀(o1 o2:Obj) (b:Addr) (o:Obj),s.heap.get? b=some o->((s.heap.push o1).push o2).get? b=some o:=λo1 o2 b o e=>aA _ (aA _ e);have ord:(ys.filterMap λp=>es[p]?.map bf).Perm (es.toList.map bf):=by refine(p.filterMap _).trans ?_;rw[show (aL es.size).filterMap (λp=>es[p]?.map bf)=((aL es.size).filterMap λp=>es[p]?).map bf from(kK ..).symm,iy]
   refine ai ⟨_,rfl,"set_iterator", _,⟨_,aU _ rfl,rfl⟩,tP.lookup,hQ _ _ s.heap.objs.size _ d ?_ ?_ ?_ (.inr (aC _)) (kk _ _) ⟨⟨_,.ref s.heap.objs.size,aU _ rfl,rfl,rfl,.drw c (aA _ (aU _ rfl)) rfl rfl rfl p rfl⟩,kk _ _ _ _ x.at_,x.d,hf⟩ ord⟩
   ·rw[bZ];exact f7 _
   ·exact Nat.lt_of_lt_of_eq (cD _) (bZ _ _).symm
   ·rw[bZ];exact aI (cD _)
end
section
variable{prog:ar}{w:aq}{A:av}{E:aa->ab->Prop}{s:ab}{S:Addr}{o:Obj}{es:Array (Int×aa)}{ep:Nat}{t:aW}{ss:List Str}
theorem SetX.kept{h h':Heap}(x:SetX w h S ss led o es ep t)(k:∀o,h.get? S=some o->h'.get? S=some o):SetX w h' S ss led o es ep t:={ x with at_:=k _ x.at_ }
theorem collect_X{Q:List aa->ab->Prop}(hh:A.handled=none)(x:SetX w s.heap S ss (!w.params.followText "set-order") o es ep t)(hl:ss.length<64)
  (hQ:∀h2 k2 d2 acc,s.heap.objs.size<=h2.objs.size->(∀b o,s.heap.get? b=some o->h2.get? b=some o)->acc.Perm (es.toList.map bf)->Q acc { s with heap:=h2,toks:=k2,drawn:=d2 }):ag (model prog w) A (collect (.ref S)) Q E s:=by
 have hlt:=aD x.at_;have n9:es.size<=63:=by have:=x.sz;omega
 let lO:Obj:={ cls:=.type "list", data:=.seq ([]:List aa).toArray };unfold collect;refine ae (mh (cF F.entry_proto_collect ?_));rw[cW F.plain_proto_collect _];show ag _ A.in1 (newList []>>=λl=>again (.builtin "list.__iadd__" ⟨[l,.ref S],[]⟩)) _ _ s;refine ae (cB ?_);refine ai ⟨d9 la _,cF F.entry_list_iadd ?_⟩;rw[cW la _];show ag _ A.in1 (jO (.ref s.heap.objs.size) (.ref S) (.ref s.heap.objs.size)) _ _ _;have ez:(s.heap.push lO).objs.size=s.heap.objs.size+1:=bZ _ _;have x1:SetX w (s.heap.push lO) S ss (!w.params.followText "set-order") o es ep t:=x.kept λo e=>aA _ e;have T1:jl { s with heap:=s.heap.push lO } (.ref S) "set" := ⟨o,x1.at_,x.ex.1⟩;unfold jO;refine ae (hX T1 ?_);rw[aj (by
  have:jV (.ref s.heap.objs.size) (.ref S)=false:=by simp[jV];exact λe=>ao e (eh hlt)
  rw[this];decide)]
 refine ae (iter_X (s:={ s with heap:=s.heap.push lO }) x1 hl λh3 I TP ord d3 hI1 hI2 hTI hTP kk it po=>?_);have hI:s.heap.objs.size+1<=I:=by rw[<-ez];exact hI1
 have L3:h3.get? s.heap.objs.size=some lO:=kk _ _ (aU _ rfl);have T3:jl { s with heap:=h3,drawn:=d3 } (.ref S) "set" := ⟨o,it.at_,x.ex.1⟩;have K3:∀b o,s.heap.get? b=some o->h3.get? b=some o:=λb o e=>kk b o (aA _ e);show ag _ A.in1 (holding [.ref I] (jP (.ref S))>>=_) _ _ { s with heap:=h3,drawn:=d3 };refine ae (bu ?_);unfold jP;refine ae (eZ T3 F.slot_set_len.lookup ?_);generalize hid:("set.__len__" : String)=id0;wp_delta;rw[show splitId id0=some ("set", "__len__") from by subst hid;decide +kernel];subst hid;refine ae (lI T3 sub_set_self ?_);dsimp only;rw[aj (by decide),ah (by decide +kernel)];refine ae (hX T3 ?_);refine ai ?_;rw[ah (by decide +kernel)];refine ae (fB ?_);refine ae ?_;show ag _ A.in1 (updateSeq s.heap.objs.size (·.push .none)>>=λ_=>updateSeq s.heap.objs.size (·.pop)) _ _ _
 refine ae (jc L3 rfl ?_);have S2:=dr (cN (·.push Value.none)) L3 rfl
 refine jc S2 rfl ?_;have S3:=dr (cN (·.pop)) S2 rfl
 have oth:∀b o,b≠s.heap.objs.size->h3.get? b=some o->((h3.update s.heap.objs.size (cN (·.push Value.none))).update s.heap.objs.size (cN (·.pop))).get? b=some o:=
  λb o hb e=>(gG _ _ (cQ hb)).trans ((gG _ _ (cQ hb)).trans e)
 have hSI:S≠I:=aI (bG hlt (lb hI));have hSf:s.heap.objs.size∉[I,S,TP]:=by
  intro z;rcases aH.mp z with z|z
  ·exact ao z (aI hI)
  ·rcases aH.mp z with z|z
   ·exact ao z (eh hlt)
   ·rw[aX]at z;rcases hTP with e|e
    ·exact ao (z.trans e) (eh hlt)
    ·rw[<-z,ez]at e;exact ao e (Nat.not_succ_le_self _)
 have W:=Tf (prog:=prog) (w:=w) (A:=A.in1) (I:=I) (S:=S) (TP:=TP) (ord:=ord) (o:=o) (es:=es) (ep:=ep) (t:=t) (by simp[hh]) hSI hTI;have ol:ord.length<=63:=by rw[po.length_eq,af,bh];exact n9
 refine ai ⟨d9 F.plain_extend_loop _,codeAny_extend_loopS W.toS (by rw[bK];omega) _ hSf _ ord.length 0 _ _ _ rfl (bR _)
  (W.frame 0 h3 _ ⟨it,bR _⟩ λb hb o e=>oth b o (λz=>hSf (by rw[<-z];exact hb)) e) S3 (ItemsOf.nil _) λs' acc' c' hm hS' hacc=>?_⟩
 show ag _ A (load s.heap.objs.size>>=_) _ _ s';refine ae (wpAny_load hS' ?_);have ea:acc'.toList=ord:=by
  apply iP;intro j;cases e:acc'.toList[j]? with
  |none=>rw[List.getElem?_eq_none_iff,bh,hacc.1]at e;exact(eK e).symm
  |some v=>rw[fI]at e;exact(hacc.2 j v e).symm
 obtain⟨h2,g2,d2,k2,o2⟩:=s';have eg:g2=s.gens:=hm.gens;have eo:o2=s.os:=hm.os;subst eg eo;refine ai (hQ h2 k2 d2 acc'.toList (fX (aD hS')) (λb o e=>?_) (by rw[ea];exact po));have hb:=aD e;exact hm.heap b o (λz=>by
  rcases aH.mp z with z|z
  ·exact ao z (aI hb)
  ·exact ao (aX.mp z) (aI (bG hb (lb hI)))) (oth b o (aI hb) (K3 b o e))
theorem set_loopX{R:cR->ab->Prop}{I:Addr}{fp wr:List Addr}{GG:Array dh->Array dh->Prop}{n:Nat}{PP:Nat->aa->Prop}{SS:Nat->ab->Prop}(W:WalksS prog w A.in1 I fp wr GG n PP SS)(hSf:S∉fp)(ks:List Str)(hn:ks.length=n)(h64:n<64)
  (hval:∀i v,PP i v->∃x tk,ks[i]?=some x/\v=.str x tk):∀(k i:Nat) (s:ab) (o:Obj) (es:Array (Int×aa)) (ep:Nat) (t:aW),n - i=k->i<=n->SS i s->SetX w s.heap S (uqK (ks.take i)) led o es ep t->
   (∀s' o es ep t,Moved (S::wr) GG s s'->SetX w s'.heap S (uqK ks) led o es ep t->R (.ok (.ret .none)) s')->
   bI (model prog w) A (.builtin "set.update.loop" ⟨[.ref S,.ref I],[]⟩) R s:=by
 have hSw:S∉wr:=λz=>hSf (W.sub _ z);have up:∀b∈wr,b∈S::wr:=λb z=>aO _ z;intro k
 induction k with
 |zero=>
  intro i s o es ep t hk hi hst x hR;obtain rfl:i=n:=by omega
  refine cF eJ ?_;rw[cW cz _];show ag _ A.in1 (pyNext (.ref I)>>=_) _ _ s;refine ae (W.done s _ _ hst λs' hm=>?_);show ag _ A.in1 (ret Value.none) _ _ s';rw[fH (by omega)]at x;exact ai (hR s' o es ep t (hm.mono up) { x with at_:=hm.heap S _ hSw x.at_ })
 |succ k ih=>
  intro i s o es ep t hk hi hst x hR;have hlt:i<n:=by omega
  refine cF eJ ?_;rw[cW cz _];show ag _ A.in1 (pyNext (.ref I)>>=_) _ _ s;refine ae (W.item i s _ _ hlt hst λv s' hP hst' hm=>?_);obtain⟨q,tk,eq,rfl⟩:=hval i v hP;show ag _ A.in1 (holding _ (setAdd S _)>>=_) _ _ s';refine ae (bu ?_);unfold setAdd;refine bu ?_;refine ae (lg ?_);have split:uqK (ks.take (i+1))=if q∈uqK (ks.take i)then uqK (ks.take i)else uqK (ks.take i)++[q]:=by unfold uqK;rw[iV,eq,kR];rfl
  have x':SetX w s'.heap S (uqK (ks.take i)) led o es ep t:={ x with at_:=hm.heap S _ hSw x.at_ };have ul:(uqK (ks.take i)).length<=i:=by have h1:=F9 (Hu (ks.take i)) λz hz=>E1.mp hz;rw[bz]at h1;omega
  refine add_x (s:={ s' with toks:=s'.toks+1 }) x' (by unfold scanBound;omega) (λinn=>?_) λnin h' o' es' ep' t' b1 y=>?_
  ·have e:uqK (ks.take (i+1))=uqK (ks.take i):=by rw[split,ah inn]
   refine ai ⟨d9 cz _,ih (i+1) _ o es ep t (by omega) hlt (W.frame _ s' s'.heap _ hst' (eW _ _) λb z o e=>e) (by rw[e];exact x') λs'' o2 es2 ep2 t2 hm'' x2=>?_⟩;exact hR s'' o2 es2 ep2 t2 (ib W.gtrans ((hm.mono up).then_heap (eW _ _) λb o z e=>e) hm'') x2
  have e:uqK (ks.take (i+1))=uqK (ks.take i)++[q]:=by rw[split,aj nin]
  refine ai ⟨d9 cz _,ih (i+1) _ _ _ _ _ (by omega) hlt (W.frame _ s' h' _ hst' (eW _ _) λb z o e=>?_) (by rw[e];exact y) λs'' o2 es2 ep2 t2 hm'' x2=>?_⟩
  ·rw[b1.2 b (λy:b=S=>hSf (by rw[<-y];exact z))];exact e
  ·refine hR s'' o2 es2 ep2 t2 (ib W.gtrans ((hm.mono up).then_heap (eW _ _) λb o z e=>?_) hm'') x2;rw[b1.2 b (λy:b=S=>z (by rw[y];exact aP))];exact e
theorem set_X{X:Cx}{pins:List (Addr×Obj)}{σ:St}{H:Hp}{ks:List Str}(I:Inv X pins σ H s)(hh:A.handled=none)(hq:SqL X.K H a (ks.map V.str))(h64:ks.length<64)
  (h:∀h2 k2 o es ep t,SetX X.w h2 s.heap.objs.size (uqK ks) (!X.w.params.followText "set-order") o es ep t->(∀b o,b<s.heap.objs.size->s.heap.get? b=some o->h2.get? b=some o)->Q (.ref s.heap.objs.size) { s with heap:=h2,toks:=k2 }):
  ag (model X.prog X.w) A (call (.type "set") [.ref a]) Q E s:=by
 have h3:A.in1.in1.in1.handled=none:=by simp[hh]
 obtain⟨its,r,pp,_⟩:=I.list hq;obtain⟨o,ho,hc,n,hd⟩:=pp.isList;have hlt:=aD ho;have hne:a≠s.heap.objs.size+1:=aI (cY hlt);have li:ks.length=its.length:=by have:=r.length;rw[af]at this;exact this
 refine zV (PS:=λh2=>∃o es ep t,SetX X.w h2 s.heap.objs.size (uqK ks) (!X.w.params.followText "set-order") o es ep t) ho hc jg iF (by decide) (itO:={ cls:=.type "list_iterator", data:=.fields #[.ref a,.int 0 0] })
  (λA Q E s1 e k=>dW ⟨o,e,hc,n,hd⟩ k) (λtk' R hR=>?_) λh2 k2 ⟨o,es,ep,t,x'⟩ kk=>h h2 k2 o es ep t x' kk
 have ke:∀{b:Addr} {o':Obj},s.heap.get? b=some o'->((s.heap.push (vd (!X.w.params.followText "set-order"))).push { cls:=.type "list_iterator", data:=.fields #[.ref a,.int 0 0] }).get? b=some o':=λe=>aA _ (aA _ e);have it:((s.heap.push (vd (!X.w.params.followText "set-order"))).push { cls:=.type "list_iterator", data:=.fields #[.ref a,.int 0 0] }).get? (s.heap.objs.size+1)=some { cls:=.type "list_iterator", data:=.fields #[.ref a,.int 0 0] }:=by rw[show s.heap.objs.size+1=(s.heap.push (vd (!X.w.params.followText "set-order"))).objs.size from(bZ _ _).symm];exact aU _ rfl
 have W:=(gb (prog:=X.prog) (w:=X.w) (A:=A.in1.in1.in1) h3 (s.heap.objs.size+1) a hne its.toArray).toS;have notin:s.heap.objs.size∉[s.heap.objs.size+1,a]:=by
  intro z;rcases aH.mp z with z|z
  ·exact ao z (aI (cD _))
  ·exact ao (aX.mp z) (eh hlt)
 refine set_loopX (S:=s.heap.objs.size) (led:=!X.w.params.followText "set-order") W notin ks (by rw[aM,li]) (by rw[aM,<- li];exact h64) ?_ (its.toArray.size - 0) 0 _ (vd (!X.w.params.followText "set-order")) #[] 0 (.fresh 0 0 (!X.w.params.followText "set-order")) rfl (bR _) ⟨⟨_,it,rfl,rfl⟩,⟨o,ke ho,hc,n,hd⟩⟩ ⟨aA _ (aU _ rfl),⟨rfl,rfl,rfl⟩,rfl,rfl,rfl,λz=>ao z (dH 0),λe he=>(by cases he),.nil⟩ λs2 o2 es2 ep2 t2 mv S2=>?_
 ·intro i v e;rw[gL]at e;have hi:i<ks.length:=by rw[li];exact(bE.mp e).1
  obtain⟨u,e2,tk,ru⟩:=r.get (i:=i) (x:=V.str ks[i]) (by rw[bb,aY hi];rfl);rw[e]at e2;cases e2;exact⟨ks[i],tk,aY hi,ru⟩
 ·obtain⟨h2,g2,d2,k2,o2'⟩:=s2;have eg:g2=s.gens:=mv.gens;have ed:d2=s.drawn:=mv.drawn;have eo:o2'=s.os:=mv.os;subst eg ed eo;refine hR h2 k2 ⟨o2,es2,ep2,t2,S2⟩ λb o hb e=>mv.heap b o (λz=>?_) (ke e);rcases aH.mp z with z|z
  ·exact ao z (aI hb)
  ·exact ao (aX.mp z) (aI (cY hb))
end
section
variable{prog:ar}{w:aq}{A:av}{E:aa->ab->Prop}{s:ab}
theorem strs_map:∀(l:List aa),(∀v∈l,∃x tk,v=.str x tk)->iG l (l.map sOf)
 |[],_=>.nil
 |v::l,h=>by obtain⟨x,tk,rfl⟩:=h v aP;exact .cons x tk (strs_map l λu hu=>h u (aO _ hu))
theorem sort_strs{l:Addr}{vs:List aa}{n:Nat}{P:PySem.Fin->ab->Prop}(sa:iG vs ss)(h64:vs.length<64)(ho:s.heap.get? l=some (seqObj "list" vs.toArray n))
  (h:∀h' e out,ON l s.heap h'->Vals ((yf ss).map V.str) out->h'.get? l=some (seqObj "list" out.toArray e)->P (.done (.ret .none)) { s with heap:=h' }):
  ag (model prog w) A (dj.«list.sort» ⟨[.ref l],[]⟩) P E s:=by
 refine list_sort_treeK strKind_oneLt ho sa.keysOf (λv₁ v₂ rest e=>keyKind_strs (by rw[<-e];exact sa)) h64 λst' a1 a2=>?_;obtain⟨ss',b1,b2,b3⟩:=sorted_out_str sa a1 a2;obtain⟨e,he⟩:=sortedHeap_at (vs:=vs) (out:=(arrOf st').map (·.2)) ho
 refine h _ e ((arrOf st').map (·.2)).toList (λb o hb z=>by rw[sortedHeap_old hb (aD z)];exact z) ?_ (by rw[Array.toArray_toList];exact he)
 rw[<-Ho b2 b3];exact Pz b1
theorem sorted_X{S:Addr}{t:aW}(hh:A.handled=none)(X:SetX w s.heap S ss (!w.params.followText "set-order") o es ep t)(hl:ss.length<64)
  (hQ:∀(p:Addr) (h2:Heap) (k2:Nat) (d2:Drawn) (e:Nat) (out:List aa),s.heap.objs.size<=p->(∀b o,s.heap.get? b=some o->h2.get? b=some o)->Vals ((yf ss).map V.str) out->h2.get? p=some (seqObj "list" out.toArray e)->Q (.ref p) { s with heap:=h2,toks:=k2,drawn:=d2 }):
  ag (model prog w) A (call (.builtin "sorted") [.ref S]) Q E s:=by
 refine Calls.call_function_entry kind_sorted plain_sorted entry_sorted (args_sorted1 _) ?_;unfold dj.«sorted»;refine ae (m:=checkCount "sorted" 1 1 _) (ai ?_);refine ae (collect_X (by simp[hh]) X hl λg k2 d2 acc hz kk pa=>?_);have al:acc.length<64:=by rw[pa.length_eq,af,bh,X.sz];exact hl
 have sa:=strs_map acc λv hv=>by obtain⟨e,he,rfl⟩:=az.mp (pa.mem_iff.mp hv);obtain⟨x,tk,rfl⟩:=X.el e he;exact⟨x,tk,rfl⟩
 have es:yf (acc.map sOf)=yf ss:=by
  have p1:(acc.map sOf).Perm ss:=by have:=pa.map sOf;rw[aJ]at this;exact this.trans X.p
  exact ix (λa b _ _=>Ct a b) (gA Cs BL _) (gA Cs BL ss) ((fL _ leS).trans (p1.trans (fL ss leS).symm))
 refine ae (wpAny_newList ?_ (by rw[bK];omega));have on:(g.push (seqObj "list" acc.toArray 0)).get? g.objs.size=some (seqObj "list" acc.toArray 0):=aU _ rfl;show ag _ _ _ _ _ { s with heap:=g.push (seqObj "list" acc.toArray 0),toks:=k2,drawn:=d2 };refine ae (bu (eV slot_list_sort ⟨_,on,rfl⟩ entry_list_sort ?_ (args_list_sort _)));refine sort_strs (s:={ s with heap:=g.push (seqObj "list" acc.toArray 0),toks:=k2,drawn:=d2 }) sa al on λh' e out kb vo he=>?_;rw[es]at vo;exact⟨_,rfl,ai ⟨_,rfl,hQ g.objs.size h' k2 d2 e out hz (λb o z=>kb b o (aI (aD (kk b o z))) (aA _ (kk b o z))) vo he⟩⟩
end
section
variable{X:Cx}{G:Bg}
def tSortX(K:ak)(te:TE):TE:=λσ H Q=>te σ H λx H1=>∃(a:Addr) (ks:List Str),x=.ref a/\SqL K H1 a (ks.map V.str)/\ks.length<64/\∀(p:Addr),H1 p=none->Q (.ref p) (upd H1 p (.lst ((yf (uqK ks)).map V.str)))
theorem pe_sortX{te:TE}{p1 p2 p3 p4:Pos}(hc:X.calm=true)(g1:Gl X "sorted")(m1:X.mg "sorted" = none)(g2:Gl X "set")(m2:X.mg "set" = none)(he:PE X e te)
  (z1:aw [Expr.Call (.Name "set" p2) [e] [] p3] X.env=[(false,eval (.Call (.Name "set" p2) [e] [] p3) X.env)]:=by rfl) (z2:aw [e] X.env=[(false,eval e X.env)]:=by rfl):PE X (.Call (.Name "sorted" p1) [.Call (.Name "set" p2) [e] [] p3] [] p4) (tSortX X.K te):=by
 intro pins s σ H Q I h;refine cA (xU I g1 m1 boot_sorted ?_ (by decide) (by decide));refine callWith_builtin1 ?_ z1 rfl;rw[z1];show ag _ _ (spliced [(false,eval (.Call (.Name "set" p2) [e] [] p3) X.env)]) _ _ s;refine dU ?_;refine cA (xU I g2 m2 m5 ?_ (by decide) (by decide));refine callWith_type1 (thn (rj he uv z2 p3 pins s σ H (λvs H1=>match vs with
  |[x]=>∃(a:Addr) (ks:List Str),x=.ref a/\SqL X.K H1 a (ks.map V.str)/\ks.length<64/\∀(p:Addr),H1 p=none->Q (.ref p) (upd H1 p (.lst ((yf (uqK ks)).map V.str)))
  |_=>False) I h) λus s1 hh=>?_) z2 rfl
 obtain⟨vs,H1,I1,r1,q1⟩:=hh
 match vs,r1,q1 with
 |[x],r1,q1=>
 obtain⟨a,ks,e1,hq,h64,q⟩:=q1;subst e1;obtain⟨u,rfl,ru⟩:=vals1 r1;cases ru;have ul:(uqK ks).length<64:=gV (F9 (Hu ks) λz hz=>E1.mp hz) h64;refine set_X I1 (I1.ok.hd hc) hq h64 λh2 k2 o es ep t x kk=>?_;refine eQ ?_;have I2:Inv X pins σ H1 { s1 with heap:=h2,toks:=k2 }:=I1.kept λb o e=>kk b o (aD e) e;refine sorted_X (s:={ s1 with heap:=h2,toks:=k2 }) (I1.ok.hd hc) x ul λp h3 k3 d3 e out hp k4 vo hg=>?_;have I3:=I2.laid (t':=k3) (o:=.lst ((yf (uqK ks)).map V.str)) k4 hp ⟨by
  rw[af,bK,show (yf (uqK ks)).length=_ from(fL _ leS).length_eq];omega,out,e,vo,hg⟩
 exact⟨.ref p,_,Inv.drw I3 d3,rfl,q p (I2.hok.fresh hp)⟩
def cSortX(f:FE):FA:=λρ=>match f ρ with
 |some (.lst ds,ρ')=>match A6 ds with
  |some ss=>if ss.length<64 then some ((yf (uqK ss)).map D.str,ρ')else none
  |none=>none
 |_=>none
theorem pfn_sortX(h:PE X e (tSortX G.K (tF G f))):PE X e (tFN G (cSortX f)):=PE.weak h λσ H Q hh=>by
 obtain⟨F,ρ,H0,es,ρ',R,e,k⟩:=hh;unfold cSortX at e;split at e
 ·rename_i ds ρ1 e1;cases e2:A6 ds with
  |none=>simp only[e2]at e;cases e
  |some ss=>
   simp only[e2]at e;split at e
   ·rename_i h64;cases e;refine⟨F,ρ,H0,_,_,R,e1,λv H1 H1' s R' r=>?_⟩;unfold Rep at r;obtain⟨a,xs,rfl,h1,h2⟩:=r;have hx:=Cn h2 e2;subst hx;exact⟨a,ss,rfl,SqL.of (R'.sub _ _ h1),h64,λp hp=>k p _ _ _ s (R'.newOwn hp _) pK (R'.h0none hp) (R'.bNone hp) (R'.apart hp) (Cu _)⟩
   ·cases e
 ·cases e
end
section
variable{X:Cx}{B:Bz}{k:Nat}{e:Expr}{f:FE}{p p2 p3 pos:Pos}
theorem zr_wxI [C:Cz X B k][N:Nb B "sorted"][N':Nb B "set"](hs:S1 X e)(hg:Gz X "sorted")(hg':Gz X "set")(ha:ZE X B e f)(z:aw [Expr.Call (.Name "set" p2) [e] [] p3] X.env=[(false,eval (.Call (.Name "set" p2) [e] [] p3) X.env)]):ZN X B (.Call (.Name "sorted" p) [.Call (.Name "set" p2) [e] [] p3] [] pos) (cSortX f):=⟨pfn_sortX (by rw[<-C.K];exact pe_sortX C.c hg (C.mg▸N.p) hg' (C.mg▸N'.p) ha.p z hs)⟩
end
end L4
namespace HT
open PySem PySem.Spec PyProof.Rows
section
variable{prog:ar}{w:aq}{A:av}{E:aa->ab->Prop}{s:ab}
theorem draw_list{it l:Addr}{items:Array aa}(hne:l≠it):∀(n i:Nat) (s:ab) (Q:List aa->ab->Prop),s.heap.IsListIter it l i->s.heap.IsList l items->i+n<=items.size->
  (∀h',h'.IsListIter it l (i+n)->cu it s.heap h'->Q ((items.toList.drop i).take n) { s with heap:=h' })->ag (model prog w) A (draw (.ref it) n) Q E s
 |0,i,s,Q,hit,_,_,hQ=>by show ag _ _ (pure []) Q E s;exact ai (by simpa using hQ s.heap hit (pd ..))
 |n+1,i,s,Q,hit,ht,hle,hQ=>by
  have hlt:i<items.size:=by omega
  show ag _ _ (pyNext (.ref it)>>=_) Q E s;refine ae (jY hit ht (x:=items[i]) (by simp[hlt]) λh₁ hit₁ hs₁=>?_);refine ae (bu (draw_list hne n (i+1) _ _ hit₁ (kM ht hs₁.extBut hne) (by omega) λh₂ hit₂ hs₂=>ai ?_));have hd:items.toList.drop i=items[i]::items.toList.drop (i+1):=by simp[gv,hlt]
  have:=hQ h₂ (by rw[show i+(n+1)=i+1+n by omega];exact hit₂) (hs₁.trans hs₂);rw[hd,List.take_succ_cons]at this;exact this
theorem unpack_list{l:Addr}{items:Array aa}{Q:List aa->ab->Prop}(hh:A.handled=none)(ht:s.heap.IsList l items)
  (hQ:∀h',m7 s.heap.objs.size s.heap h'->Q items.toList { s with heap:=h' }):ag (model prog w) A (unpackItems (.ref l) items.size none) Q E s:=by
 have hlt:l≠s.heap.objs.size:=by obtain⟨o,ho,_⟩:=ht;exact aI (aD ho)
 unfold unpackItems;refine ae ?_;unfold notIterableAtAll;refine ae (eZ ht.typeIs slot_list_iter.lookup ?_);refine ai ?_;simp only[eO,if_false];refine ae (bu (dW ht ?_));refine ae (bu (draw_list hlt items.size 0 _ _ ⟨_,aU _ rfl,rfl,rfl⟩ (ht.push _) (by omega) λh₁ hit₁ hs₁=>?_));have hall:List.take items.size (List.drop 0 items.toList)=items.toList:=by rw[mn];exact fH (by simp)
 rw[hall];rw[aj (by simp)];have ht₁:h₁.IsList l items:=kM (ht.push _) hs₁.extBut hlt;refine ae (bu (j6 hh hit₁ ht₁ (by simp) λh₂ he₂=>?_));simp only[Option.isSome_none,eO,if_false];exact ai (hQ h₂ λb o hb e=>he₂ b o hb (hs₁.extBut b o hb (aA _ e)))
end
end HT
namespace L2
open PySem PySem.Spec PyProof.Rows
section
variable{X:Cx}{pos:Pos}
def gLst(K:ak)(n:Nat)(t:TGs):TG:=λv σ H Q=>∃a xs,v=.ref a/\SqL K H a xs/\xs.length=n/\t xs σ H Q
theorem pg_lst{es:List Expr}{k:Nat}{t:TGs}{n:Nat}(hc:X.calm=true)(h:PGs X es t)
  (hn:(bD es X.env).length=n) (hst:(bD es X.env).findIdx? (·.1)=none):PG X (.Tuple es k pos) (gLst X.K n t):=by
 intro pins s σ H v u Q I r hw;obtain⟨a,xs,e1,hq,hl,hw⟩:=hw;subst e1;cases r;obtain⟨its,rv,ht,hz⟩:=I.list hq;have e2:(bD es X.env).length=its.toArray.size:=by simp[hn,<- hl,rv.length]
 rw[assign_Tuple];refine ae (hJ ?_);unfold unpack;rw[e2,hst];refine ae (bu (HT.unpack_list (I.ok.hd hc) ht.isList λh' hx=>?_));have I1:Inv X pins σ H { s with heap:=h' }:=I.kept (t':=s.toks) λb o e=>hx b o (aI (aD e)) e;exact h pins _ σ H xs _ Q I1 (by simpa using rv) hw
end
end L2
namespace L4
open PySem PySem.Spec PyProof.Rows L2 L3
variable{pos:Pos}{e:Expr}
section
variable{X:Cx}{G:Bg}
def gTL(gs:List D->List Sl->Option (List Sl))(n:Nat):FG:=λd ρ=>match d with
 |.lst ds=>if ds.length=n then gs ds ρ else none
 |_=>none
theorem pfg_lst{n m:Nat}{es:List Expr}{gs:List D->List Sl->Option (List Sl)}{k:Nat}(h:PG X (.Tuple es k pos) (gLst G.K m (JJ G n gs))):PG X (.Tuple es k pos) (tFG G n (gTL gs m)):=PG.weak h λv σ H Q hh=>by
 obtain⟨F,ρ,H0,d,ρ',R,r,e,k⟩:=hh;cases d with
 |lst ds=>
  unfold gTL at e;simp only at e;split at e
  ·rename_i hl;unfold Rep at r;obtain⟨a,xs,rfl,h1,h2⟩:=r;exact⟨a,xs,rfl,SqL.of (R.sub _ _ h1),by rw[<-pF h2];exact hl,F,ρ,H0,ds,ρ',R,h2,e,k⟩
  ·cases e
 |_=>cases e
def cRep(f g:FE):FA:=λρ=>match f ρ with
 |some (.lst xs,ρ1)=>match g ρ1 with
  |some (.int k,ρ2)=>if xs.length * k.toNat<=1000/\-1000<=k/\k<=1000 then some ((br k.toNat xs).flatten,ρ2)else none
  |_=>none
 |_=>none
theorem reps_repl{H:Hp}{ds:List D}{xs:List V}(r:pE G H ds xs):∀k:Nat,pE G H (br k ds).flatten (br k xs).flatten
 |0=>qf
 |k+1=>by rw[dS,dS,eS,eS];exact rq r (reps_repl r k)
theorem pfn_rep{a b:Expr}{f g:FE}(ha:PE X a (tF G f))(hb:PE X b (tF G g)):PE X (.BinOp a .Mult b pos) (tFN G (cRep f g)):=PE.weak (HU QA ha hb) λσ H Q hh=>by
 obtain⟨F,ρ,H0,d,ρ',R,e,k⟩:=hh;unfold cRep at e;split at e
 ·rename_i xs ρ1 e1;split at e
  ·rename_i m ρ2 e2;split at e
   ·rename_i hl;cases e;refine⟨F,ρ,H0,_,ρ1,R,e1,λv H1 H1' s R' r=>⟨F,ρ1,H1,_,_,R',e2,λu H2 H2' s2 R2 r2=>?_⟩⟩;have r':=Rep.mono s2 _ _ r;unfold Rep at r' r2;obtain⟨a1,xs1,rfl,h1,h2⟩:=r';subst r2;refine⟨a1,m,xs1,rfl,rfl,R2.sub _ _ h1,by omega,by omega,by rw[<-pF h2];exact sj hl.1,λp hp=>?_⟩;exact k p _ _ _ (s.trans s2) (R2.newOwn hp _) pK (R2.h0none hp) (R2.bNone hp) (R2.apart hp) (reps_repl h2 _)
   ·cases e
  ·cases e
 ·cases e
def tFAq(G:Bg)(i:Int)(n:FA):TA:=λσ H Q=>∃F ρ H0 ns ρ2,pV G F σ ρ H0 H/\n ρ=some (ns,ρ2)/\∀p zs H0' H',pL H0 H0'->pV G F σ ρ2 H0' H'->H' p=some (.lst zs)->H0' p=none->F.B p=none->Apart σ ρ2 p->pE G H0' ns zs->Q [.ref p,.int i] H'
theorem pfaq{n:FA}{i:Int}{j p}(h:PE X e (tFN G n))(hs:aw [e,.Constant (.int i) j p] X.env=(false,eval e X.env)::aw [.Constant (.int i) j p] X.env)(hs':aw [.Constant (.int i) j p] X.env=[(false,eval (.Constant (.int i) j p) X.env)]):PA X [e,.Constant (.int i) j p] (tFAq G i n):=PA.weak (rj h (rj Et uv hs') hs) λσ H Q hh=>by obtain⟨F,ρ,H0,ns,ρ2,R,en,k⟩:=hh;exact⟨F,ρ,H0,ns,ρ2,R,en,λp zs H1 H1' s R' h1 h2 h3 h4 h5=>k p zs _ _ s R' h1 h2 h3 h4 h5⟩
theorem pf_mutQ{g:List D->List D->Option (D×List D)}{n:FA}{i:Int}{E:XK}(h:PE X e (zD (spM G g) [] E (tFAq G i n))):PE X e (tF G (cMutT g (aCons (cC (.int i)) qe) n)):=PE.weak h λσ H Q hh=>by
 obtain⟨F,ρ,H0,d,ρ',R,e,k⟩:=hh;unfold cMutT at e;rw[show aCons (cC (.int i)) qe ρ=some ([.int i],ρ) from rfl]at e;dsimp only at e;split at e
 ·rename_i ns ρ2 e2;split at e
  ·rename_i d1 es' e3;cases e;refine⟨F,ρ,H0,ns,_,R,e2,λb zs H1 H1' s R' h1 h2 h3 h4 h5=>?_⟩;refine⟨b,[.int i],zs,H1,ns,[.int i],_,es',rfl,h1,h2,R'.sub,h5,qr (rS i) qf,e3,λv zs' H2 H2' u1 u2 u3 fr w0 w1 w2 w3=>?_⟩;exact k _ _ _ (s.trans u1) (R'.temp h3 h4 u1 u2 u3 fr w1) w3
  ·cases e
 ·cases e
end
section
variable{X:Cx}{B:Bz}{k j n' k':Nat}{x:Str}{e e':Expr}{es:List Expr}{f f':FE}{a n:FA}{p p' pos:Pos}{g:List D->List D->Option (D×List D)}{gs:List D->List Sl->Option (List Sl)}{i:Int}{m:Nat}
theorem zr_gtuL [C:Cz X B k](h:ZH X B es m gs)(hn:(bD es X.env).length=n')(ht:(bD es X.env).findIdx? (·.1)=none):ZG X B (.Tuple es k' pos) m (gTL gs n'):=⟨pfg_lst (by rw[<-C.K];exact pg_lst C.c h.p hn ht)⟩
theorem zr_rpN(ha:ZE X B e f)(hb:ZE X B e' f'):ZN X B (.BinOp e .Mult e' pos) (cRep f f'):=⟨pfn_rep ha.p hb.p⟩
theorem zr_mqI{j'}[C:Cz X B k][Q:Df B j x (spM B.G g)](hg:Gz X x)(hd:Dz x)(ha:ZN X B e n)(hs:Sz X e [.Constant (.int i) j' p'])(hs':S1 X (.Constant (.int i) j' p'))(hl:Lz X pos [.Constant (.int i) j' p'])(hj:dO j k=true):ZE X B (.Call (.Name x p) [e,.Constant (.int i) j' p'] [] pos) (cMutT g (aCons (cC (.int i)) qe) n):=by obtain⟨ps,q⟩:=dz hg hd (X:=X) (Q:=Q);obtain⟨f,fd,h1,h2,h3,h4⟩:=q;exact⟨pf_mutQ (BE (p:=p) (pos:=pos) h4 (C.r.mono (dM.mp hj)) hg h1 h2 h3 .nil BZ (pfaq ha.p hs hs') hd hs hl)⟩
end
section
variable{X:Cx}{G:Bg}
def rNiT(K:ak):R2:=λx y H Q=>∃p xs d l,y=.ref p/\SqL K H p xs/\L3.Rep K H d x/\L3.pE K H l xs/\dpt d<=20/\(∀e∈l,dpt e<=20)/\Q (.bl (!l.any λe=>eqD e d)) H
theorem op_niT(hu:X.A.units+64<cLine):OpR X (aV .NotIn) (rNiT X.K):=by
 intro pins s σ H x y v u Q I rx ry h;obtain⟨p,xs,d,l,rfl,hq,rd,rl,hd,hl,q⟩:=h;cases ry;obtain⟨its,r,pl,hz⟩:=I.list hq;obtain⟨m1,m2⟩:=reps_mem rl r;have ea:∀e∈l,∀z w,L3.Rep X.K H e z->RelV z w->f9 X.A.in1 s w v (eqD e d):=λe he z w h1 h2=>KR I e d z x w v X.A.in1 h1 rd h2 rx (by have:=hl e he;show X.A.units+1+_+_<_;omega);let f:aa->Bool:=λw=>@decide (∃e∈l,∃z,L3.Rep X.K H e z/\RelV z w/\eqD e d=true) (fF _);refine kF f pl.isList (λw hw=>?_) ⟨.bl _,H,I,rfl,?_⟩
 ·by_cases hf:∃e∈l,∃z,L3.Rep X.K H e z/\RelV z w/\eqD e d=true
  ·have ef:f w=true:=@aR _ (fF _) hf;obtain⟨e,he,z,h1,h2,h3⟩:=hf;have:=ea e he z w h1 h2;rw[h3]at this;rw[ef];exact this
  ·have ef:f w=false:=@aN _ (fF _) hf;obtain⟨e,he,z,h1,h2⟩:=m1 w (by simpa using hw);have:=ea e he z w h1 h2;rw[iW.mpr λh3=>hf ⟨e,he,z,h1,h2,h3⟩]at this;rw[ef];exact this
 ·have eq:its.toArray.any f=l.any λe=>eqD e d:=by
   rw[show its.toArray.any f=its.any f by simp];refine cE.mpr ?_;rw[dA,dA];constructor
   ·rintro⟨w,hw,hf⟩;obtain⟨e,he,z,h1,h2,h3⟩:=@bx _ (fF _) hf;exact⟨e,he,h3⟩
   ·rintro⟨e,he,h3⟩;obtain⟨w,hw,z,h1,h2⟩:=m2 e he;exact⟨w,hw,@aR _ (fF _) ⟨e,he,z,h1,h2,h3⟩⟩
  rw[eq];exact q
def dNiT:D->D->Option D:=λx y=>match y with
 |.lst ds=>match toD x,um ds with
  |some d,some l=>if decide (dpt d<=20)&&l.all (λe=>decide (dpt e<=20))then some (.bl (!l.any λe=>eqD e d))else none
  |_,_=>none
 |_=>none
theorem od_niT:OpD G (rNiT G.K) dNiT:=λx y z H0 H v u Q e s rx ry k=>by
 unfold dNiT at e;split at e
 ·rename_i ds;cases e1:toD x with
  |none=>simp only[e1]at e;cases e
  |some d=>
   cases e2:um ds with
   |none=>simp only[e1,e2]at e;cases e
   |some l=>
    simp only[e1,e2]at e;split at e
    ·rename_i hc;cases e;rw[aF,bw,aE]at hc;have ry:=Rep.mono s _ _ ry;unfold Rep at ry;obtain⟨a,xs,rfl,h1,h2⟩:=ry;exact⟨a,xs,d,l,rfl,SqL.of h1,BI x v d (Rep.mono s _ _ rx) e1,zR ds xs l h2 e2,hc.1,λe he=>bx (hc.2 e he),k _ λ_ _=>sk _⟩
    ·cases e
 ·cases e
instance niT2:CmC .NotIn dNiT:=⟨λX G h hu=>⟨_,by rw[<-h];exact op_niT hu,od_niT⟩⟩
end
section
variable{B:Bz}[Y:Yb B]{k np n:Nat}{b:FS}{x:Str}{st s0:Stmt}{l:List Stmt}
theorem gN5(N:List Str){g:List D->Option (List D)}(hg:g=fnN np n b)(q:GD B.G.K x st)(hl:qo st=s0::l)(body:Bdz B N x st (s0::l) k b)(S:okO N (psO st) st np n=true:=by kernel_rfl)(bd:Bds x x st (psO st):=by (repeat intro _);rfl):Df B (k+1) x (spN B.G g):=
 ⟨_,gN' hg Y.y q (okk S).1 (body.ok hl) (okk S).2.1 (okk S).2.2 bd⟩
end
section
variable{X:Cx}{B:Bz}{k i:Nat}{x:Str}{p pos apos:Pos}
theorem zr_clI [C:Cz X B k](h:sees X i x=true)(hb:Az X (.Name x p) "clear")(hl:Ez apos pos):ZE X B (.Call (.Attribute (.Name x p) "clear" apos) [] [] pos) (Oh i):=⟨Ld (by rw[<-C.K];exact Qy fP kQ F.type_list_clear KH (pvI h) hb hl)⟩
end
end L4
namespace K31x
open PySem L2 L3 L4
abbrev D:=L4.D
def top(i:Nat):Stmt:=PySem.Challenge.pw_tellworld_k31_commands_told.main.body.getD i (.Pass ⟨0,0,0,0⟩)
def wF:Nat->Bool:=λc=>c==14
def yN:Nat->Bool:=λc=>c==13
def rH:Nat->Bool:=λc=>c==2
def D4:Nat->Bool:=λc=>c==9
def rD:Nat->Bool:=λc=>c==2
def uB:Nat->Bool:=λc=>c==14
def yh:Nat->Bool:=λc=>c==14
def vZ:Nat->Bool:=λc=>c==14
def qy:Nat->Bool:=λc=>c==0||c==7
def sI:Nat->Bool:=λc=>c==1
def vI:Nat->Bool:=λc=>c==14
def pI:Nat->Bool:=λc=>c==0||c==1||c==2
def IR:Nat->Bool:=λc=>c==10
def D5:Nat->Bool:=λc=>c==10
def sr:Nat->Bool:=λc=>c==2
def yO:Nat->Bool:=λc=>c==3||c==11
def vJ:Nat->Bool:=λc=>c==13
def wG:Nat->Bool:=λc=>c==14
def wH:Nat->Bool:=λc=>c==14
def rh:Nat->Bool:=λc=>c==0||c==1
def tQ:Nat->Bool:=λc=>c==3||c==4||c==5||c==6||c==7||c==11||c==12
def AD:Nat->Bool:=λc=>c==13
def Cy:Nat->Bool:=λc=>c==13
def vg:Nat->Bool:=λc=>c==14
def AE:Nat->Bool:=λc=>c==6||c==12
def tR:Nat->Bool:=λc=>c==13
def vK:Nat->Bool:=λc=>c==14
def Gf:Nat->Bool:=λc=>c==8
def r9:Nat->Bool:=λc=>c==0
def v3:Nat->Bool:=λc=>c==14
abbrev Vj:Ty->Option Bool:=tN 16 3
abbrev Hv:Ty->Option Bool:=tN 16 10
abbrev PD:Ty->Option Bool:=tN 16 4
abbrev Ml:Ty->Option Bool:=tN 16 7
abbrev PF:Ty->Option Bool:=tN 16 15
abbrev Mm:Ty->Option Bool:=tN 16 1
abbrev Gg:Ty->Option Bool:=tN 16 6
abbrev Mn:Ty->Option Bool:=tN 16 11
abbrev Mo:Ty->Option Bool:=tN 16 9
abbrev PH:Ty->Option Bool:=tN 16 12
abbrev Mp:Ty->Option Bool:=tN 16 13
abbrev Mq:Ty->Option Bool:=tN 16 5
abbrev IS:Ty->Option Bool:=tN 16 0
abbrev Mr:Ty->Option Bool:=tN 16 2
abbrev Ms:Ty->Option Bool:=tN 16 8
def yi:L4.D:=(D.int 8)
def yj:L4.D:=(D.int 12)
def CA:L4.D:=(D.tup [(D.str "it"),(D.str "other"),(D.str "here"),(D.str "the"),(D.str "a"),(D.str "undo"),(D.str "restart")])
def CB:L4.D:=(D.tup [(D.str "the"),(D.str "a")])
def xi:L4.D:=(D.tup [(D.str "room"),(D.str "plain"),(D.str "fixed"),(D.str "box"),(D.str "lamp"),(D.str "you")])
def IT:L4.D:=(D.tup [(D.str "alone"),(D.str "one"),(D.str "two"),(D.str "way")])
def vM:L4.D:=(D.tup [(D.str "room"),(D.str "box"),(D.str "you")])
def vN:L4.D:=(D.tup [(D.str "box"),(D.str "lamp")])
def y7:L4.D:=(D.tup [(D.str "room"),(D.str "you")])
def z4:L4.D:=(D.int 5)
def z5:L4.D:=(D.int 4)
def A8:L4.D:=(D.int 4)
def z6:L4.D:=(D.int 60)
def vO:L4.D:=(D.int 3)
def z7:L4.D:=(D.int 5)
def y8:L4.D:=(D.int 7)
def uM:L4.D:=(D.int 4)
def yk:L4.D:=(D.int 3)
def ym:L4.D:=(D.int 10)
def z8:L4.D:=(D.int 6)
def z9:L4.D:=(D.int 4)
def vh:L4.D:=(D.tup [(D.str "the"),(D.str "a"),(D.str "undo"),(D.str "restart")])
def Aa:L4.D:=(D.int 20)
def vm:FS:=(pU (q8 (c1 (qC (qU "str")) (cV 0)) (q8 (sQ va va (cC (.int 1)) (c1 qR (cV 0)) (cV 1)) (c1 uy (cL (pH 1 [] (iS (cV 0)) (gN 0) qg (sQ Lj Lj (cS "a") (cV 0) (cS "z"))))))))
def sU:=fnD 2 2 vm
def D6:FS:=(pU (q8 (pC sU (aCons (cV 0) (a1 (cC yi)))) (c2 (dIn true) (cV 0) (cC CA))))
def sA:=fnD 1 1 D6
def D7:FS:=(pU (q8 (pC sU (aCons (cV 0) (a1 (cC yj)))) (c2 (dIn true) (cV 0) (cC CB))))
def sC:=fnD 1 1 D7
def A9:FS:=(pU (q8 (c1 (qC (qU "str")) (cV 0)) (c2 (dIn false) (cV 0) (cV 1))))
def ql:=fnD 2 2 A9
def CC:FS:=(pU (q8 (c1 (qC (qU "int")) (cV 0)) (zg (c1 (qC (qU "bool")) (cV 0)))))
def vn:=fnD 1 1 CC
def xK:FS:=(pU (q8 (c1 (qC (qU "list")) (cV 0)) (c2 va (c1 qR (cV 0)) (cV 1))))
def qw:=fnD 2 2 xK
def CD:FS:=(pU (cIf (cT (c1 (qC (qU "list")) (cV 0))) (cL (yZ (cV 0))) (cV 0)))
def zm:=fnD 1 1 CD
def xj:FS:=(pA (qq 0 0 "name" (cV 1))
 (pA (qq 0 0 "words" (cV 2))
 (pA (qq 0 0 "kind" (cV 3))
 (qq 0 0 "start" (cV 4)))))
def sD:=fnI 0 4 5 xj
def Ba:FS:=(pA (qq 1 0 "name" (cV 1))
 (pA (qq 1 0 "start" (cV 2))
 (qq 1 0 "most" (cV 3))))
def yn:=fnI 1 3 4 Ba
def yp:FS:=(pA (qq 2 0 "name" (cV 1))
 (pA (qq 2 0 "others" (cIf (cT (c2 zQ (cV 2) (cC D.non))) (qd qe) (cV 2)))
 (pA (qq 2 0 "form" (cV 3))
 (qq 2 0 "joining" (cV 4)))))
def qx:=fnI 2 4 5 yp
def D8:FS:=(pA (qq 3 0 "term" (cV 1))
 (qq 3 0 "place" (cV 2)))
def yP:=fnI 3 2 3 D8
def CG:FS:=(qq 4 0 "term" (cV 1))
def xk:=fnI 4 1 2 CG
def Bb:FS:=(qq 5 0 "term" (cV 1))
def Bc:=fnI 5 1 2 Bb
def y9:FS:=(pA (qq 6 0 "term" (cV 1))
 (qq 6 0 "value" (cV 2)))
def qV:=fnI 6 2 3 y9
def Bd:FS:=(pA (qq 7 0 "term" (cV 1))
 (qq 7 0 "kind" (cV 2)))
def rP:=fnI 7 2 3 Bd
def Be:FS:=(qq 8 0 "word" (cV 1))
def yt:=fnI 8 1 2 Be
def CH:FS:=(qq 9 0 "inner" (cV 1))
def rT:=fnI 9 1 2 CH
def Bf:FS:=(pA (qq 10 0 "one" (cV 1))
 (qq 10 0 "other" (cV 2)))
def Bh:=fnI 10 2 3 Bf
def Bi:FS:=(pA (qq 11 0 "term" (cV 1))
 (qq 11 0 "place" (cV 2)))
def su:=fnI 11 2 3 Bi
def CJ:FS:=(pA (qq 12 0 "term" (cV 1))
 (qq 12 0 "value" (cV 2)))
def sV:=fnI 12 2 3 CJ
def Bj:FS:=(pA (qq 13 0 "verb" (cV 1))
 (pA (qq 13 0 "tests" (pC zm (a1 (cV 2))))
 (pA (qq 13 0 "deeds" (pC zm (a1 (cV 3))))
 (pA (qq 13 0 "text" (cV 4))
 (qq 13 0 "refuses" (cV 5))))))
def tu:=fnI 13 5 6 Bj
def wI:FS:=(pU (c2 (dIn false) (c1 (pG qy "kind") (cV 0)) (cC vM)))
def ud:=fnD 1 1 wI
def qM:Nat->Option (List D->Option D):=λc=>match c with
 |0=>some ud
 |_=>none
def wJ:FS:=(pU (c2 (dIn false) (c1 (pG qy "kind") (cV 0)) (cC vN)))
def wK:=fnD 1 1 wJ
def rJ:Nat->Option (List D->Option D):=λc=>match c with
 |0=>some wK
 |_=>none
def vp:FS:=(pU (c2 (dIn true) (c1 (pG qy "kind") (cV 0)) (cC y7)))
def sW:=fnD 1 1 vp
def qY:Nat->Option (List D->Option D):=λc=>match c with
 |0=>some sW
 |_=>none
def xM:FS:=(sIf (rO (cT (cV 0))) Ox pQ)
def pJ:=fnD 2 2 xM
def CK:FS:=(pU (c1 qR (cL (pH 1 [1] (iL (cV 0)) (gN 0) (cT (c2 (dEq false) (c1 (pG qy "kind") (cV 0)) (cV 1))) (cV 0)))))
def xl:=fnD 2 2 CK
def Ab:FS:=(qQ (pH 1 [] (iL (cV 0)) (gN 0) (cT (qB qY "is_plainly" (cV 0) qe)) (cV 0)))
def sE:=fnN 1 1 Ab
def AF:FS:=(pA (sIf (tL (rO (cT (c1 (qC Mm) (cV 0)))) (tL (rO (cT (pC vn (a1 (c1 (pG rh "start") (cV 0)))))) (rO (cT (pC vn (a1 (c1 (pG sI "most") (cV 0)))))))) (pU (cC (.bl false))) pQ)
 (pU (q8 (sQ va va (cC (.int 1)) (c1 (pG sI "most") (cV 0)) (cC yk)) (sQ va va (cC (.int 0)) (c1 (pG rh "start") (cV 0)) (c1 (pG sI "most") (cV 0))))))
def AG:=fnD 1 1 AF
def vq:FS:=(pA (p6 1 (q8 (c1 (qC (qU "list")) (cV 0)) (c1 uy (cL (pH 1 [] (iL (cV 0)) (gN 0) qg (c1 (qC IS) (cV 0)))))))
 (pA (qb (pC pJ (aCons (cV 1) (a1 (cS "things are a list of things")))))
 (pA (qb (pC pJ (aCons (c1 uy (cL (pH 1 [] (iL (cV 0)) (gN 0) qg (pC ql (aCons (c1 (pG qy "kind") (cV 0)) (a1 (cC xi))))))) (a1 (cS "a thing is of no kind")))))
 (pA (qb (pC pJ (aCons (sQ va va (cC (.int 1)) (pC xl (aCons (cV 0) (a1 (cS "room")))) (cC z7)) (a1 (cS "a world has 1 to 5 rooms")))))
 (pA (qb (pC pJ (aCons (c2 (dEq false) (pC xl (aCons (cV 0) (a1 (cS "you")))) (cC (.int 1))) (a1 (cS "a world has just one you")))))
 (qb (pC pJ (aCons (c2 va (c1 qR (cL (qh sE (a1 (cV 0))))) (cC y8)) (a1 (cS "a world has at most 7 things beside rooms and you"))))))))))
def vt:=fnD 1 2 vq
def v5:FS:=(pA (p6 1 (q8 (pC qw (aCons (cV 0) (a1 (cC uM)))) (c1 uy (cL (pH 1 [] (iL (cV 0)) (gN 0) qg (pC AG (a1 (cV 0))))))))
 (qb (pC pJ (aCons (cV 1) (a1 (cS "marks are a list of at most 4 marks, each from 0 to at most 3"))))))
def v7:=fnD 1 2 v5
def Ac:FS:=(pU (c2 (dEq false) (c1 (zW zl) (cV 0)) (c1 qR (cV 0))))
def rU:=fnD 1 1 Ac
def v8:FS:=(pA (p6 2 (cL (qS (cL (pH 1 [] (iL (cV 0)) (gN 0) qg (c1 (pG pI "name") (cV 0)))) (cL (pH 1 [] (iL (cV 1)) (gN 0) qg (c1 (pG pI "name") (cV 0)))))))
 (pA (qb (pC pJ (aCons (c1 uy (cL (pH 1 [] (iL (cV 2)) (gN 0) qg (pC sA (a1 (cV 0)))))) (a1 (cS "a name is no name")))))
 (qb (pC pJ (aCons (pC rU (a1 (cV 2))) (a1 (cS "two things or marks have one name")))))))
def wa:=fnD 2 3 v8
def Ad:FS:=(qQ (qS (cL (pH 1 [] (iL (cV 0)) (gN 0) (cT (qB rJ "has_mark" (cV 0) qe)) (c1 (pG pI "name") (cV 0)))) (cL (pH 1 [] (iL (cV 1)) (gN 0) qg (c1 (pG pI "name") (cV 0))))))
def uN:=fnN 2 2 Ad
def zp:FS:=(pA (sIf (cT (c2 (dEq false) (c1 (pG qy "kind") (cV 1)) (cS "room"))) (pU (c2 zQ (c1 (pG rh "start") (cV 1)) (cC D.non))) pQ)
 (pA (sIf (cT (c2 (dEq false) (c1 (pG qy "kind") (cV 1)) (cS "you"))) (pU (pC ql (aCons (c1 (pG rh "start") (cV 1)) (a1 (cL (pH 1 [] (iL (cV 0)) (gN 0) (cT (c2 (dEq false) (c1 (pG qy "kind") (cV 0)) (cS "room"))) (c1 (pG pI "name") (cV 0)))))))) pQ)
 (pU (pC ql (aCons (c1 (pG rh "start") (cV 1)) (a1 (cL (pH 1 [] (iL (cV 0)) (gN 0) (cT (qB qM "can_hold" (cV 0) qe)) (c1 (pG pI "name") (cV 0))))))))))
def zq:=fnD 2 2 zp
def xN:FS:=(pA (p6 2 (c2 y4 (cV 0) (cV 1)))
 (pA (u4 (iR1 (c1 qR (cV 0))) (gN 3) (pA (sIf (cT (c2 zQ (cV 2) (cC D.non))) (pU (cC (.bl true))) pQ)
 (p6 2 (c2 y4 (cV 0) (cV 2)))))
 (pU (c2 zQ (cV 2) (cC D.non)))))
def uC:=fnD 2 4 xN
def vv:FS:=(pA (qb (pC pJ (aCons (c1 uy (cL (pH 1 [0] (iL (cV 0)) (gN 0) qg (pC zq (aCons (cV 1) (a1 (cV 0))))))) (a1 (cS "a start is none")))))
 (pA (DY 1)
 (pA (u4 (iL (cV 0)) (gN 2) (uz 1 (c1 (pG pI "name") (cV 2)) (c1 (pG rh "start") (cV 2))))
 (qb (pC pJ (aCons (c1 uy (cL (pH 1 [1] (iD (cFz 1)) (gN 0) qg (pC uC (aCons (cV 1) (a1 (cV 0))))))) (a1 (cS "a thing starts within itself"))))))))
def vw:=fnD 1 3 vv
def Bk:FS:=(pA (sIf (tL (rO (cT (c1 (qC (qU "tuple")) (cV 0)))) (rO (cT (sQ va va (cC (.int 1)) (c1 qR (cV 0)) (cC z9))))) (pU (cC (.bl false))) pQ)
 (pU (q8 (c1 uy (cL (pH 1 [] (iT (cV 0)) (gN 0) qg (pC sC (a1 (cV 0)))))) (pC rU (a1 (cV 0))))))
def vP:=fnD 1 1 Bk
def D9:FS:=(pU (c1 uy (cL (pH 1 [0] (iT (cV 1)) (gN 0) qg (c2 (dIn false) (cV 0) (cV 1))))))
def wL:=fnD 2 2 D9
def uD:FS:=(pA (p6 2 (cL (pH 1 [1] (iL (cV 0)) (gN 0) (cT (c2 (dEq true) (c1 (pG pI "name") (cV 0)) (c1 (pG pI "name") (cV 1)))) (cV 0))))
 (pU (zg (c1 Ci (cL (pH 1 [1] (iL (cV 2)) (gN 0) qg (pC wL (aCons (c1 (pG r9 "words") (cV 0)) (a1 (c1 (pG r9 "words") (cV 1)))))))))))
def uE:=fnD 2 3 uD
def rK:FS:=(pA (qb (pC pJ (aCons (c1 uy (cL (pH 1 [] (iL (cV 0)) (gN 0) qg (pC vP (a1 (c1 (pG r9 "words") (cV 0))))))) (a1 (cS "a thing has 1 to 4 unlike words, as a tuple")))))
 (pA (p6 1 (cL (qh sE (a1 (cV 0)))))
 (qb (pC pJ (aCons (c1 uy (cL (pH 1 [1] (iL (cV 1)) (gN 0) qg (pC uE (aCons (cV 1) (a1 (cV 0))))))) (a1 (cS "one thing has all words of another")))))))
def rL:=fnD 1 2 rK
def xn:FS:=(pA (p6 2 (q8 (c1 (qC (qU "list")) (cV 0)) (q8 (c1 uy (cL (pH 1 [1] (iL (cV 0)) (gN 0) qg (pC ql (aCons (cV 0) (a1 (cV 1))))))) (pC rU (a1 (cV 0))))))
 (qb (pC pJ (aCons (cV 2) (a1 (cS "dark is a list of rooms' names, each once"))))))
def xp:=fnD 2 3 xn
def CL:FS:=(pA (sIf (tL (rO (cT (c1 (qC (qU "tuple")) (cV 0)))) (cT (c2 (dEq true) (c1 qR (cV 0)) (cC (.int 4))))) (pU (cC (.bl false))) pQ)
 (pA (p6 3 (cOr (c2 zQ (c2 dIx (cV 0) (cC (.int 3))) (cC D.non)) (pC ql (aCons (c2 dIx (cV 0) (cC (.int 3))) (a1 (cV 2))))))
 (pU (q8 (pC ql (aCons (c2 dIx (cV 0) (cC (.int 0))) (a1 (cV 1)))) (q8 (pC sC (a1 (c2 dIx (cV 0) (cC (.int 1))))) (q8 (pC ql (aCons (c2 dIx (cV 0) (cC (.int 2))) (a1 (cV 1)))) (cV 3)))))))
def CM:=fnD 3 4 CL
def xq:FS:=(pA (p6 3 (q8 (pC qw (aCons (cV 0) (a1 (cC ym)))) (c1 uy (cL (pH 1 [1,2] (iL (cV 0)) (gN 0) qg (pC CM (aCons (cV 0) (aCons (cV 1) (a1 (cV 2))))))))))
 (pA (qb (pC pJ (aCons (cV 3) (a1 (cS "ways are a list of at most 10 tuples (room, word, room, mark)")))))
 (qb (pC pJ (aCons (pC rU (a1 (cL (pH 1 [] (iL (cV 0)) (gN 0) qg (qd (aCons (c2 dIx (cV 0) (cC (.int 0))) (a1 (c2 dIx (cV 0) (cC (.int 1)))))))))) (a1 (cS "two ways lead from one room by one word")))))))
def xt:=fnD 3 4 xq
def Ea:FS:=(pA (sIf (tL (rO (cT (c1 (qC Mr) (cV 0)))) (tL (rO (cT (pC sA (a1 (c1 (pG pI "name") (cV 0)))))) (rO (cT (c1 (qC (qU "tuple")) (c1 (pG sr "others") (cV 0))))))) (pU (cC (.bl false))) pQ)
 (pA (sIf (tL (rO (cT (c1 uy (cL (pH 1 [] (iT (c1 (pG sr "others") (cV 0))) (gN 0) qg (pC sA (a1 (cV 0)))))))) (rO (cT (pC ql (aCons (c1 (pG rH "form") (cV 0)) (a1 (cC IT))))))) (pU (cC (.bl false))) pQ)
 (pU (cIf (cT (c2 (dEq false) (c1 (pG rH "form") (cV 0)) (cS "two"))) (pC sC (a1 (c1 (pG rD "joining") (cV 0)))) (c2 zQ (c1 (pG rD "joining") (cV 0)) (cC D.non))))))
def Eb:=fnD 1 1 Ea
def za:FS:=(pA (p6 1 (q8 (pC qw (aCons (cV 0) (a1 (cC z8)))) (c1 uy (cL (pH 1 [] (iL (cV 0)) (gN 0) qg (pC Eb (a1 (cV 0))))))))
 (qb (pC pJ (aCons (cV 1) (a1 (cS "verbs are a list of at most 6 verbs"))))))
def sJ:=fnD 1 2 za
def Bl:FS:=(pU (zg (c1 Ci (cL (pH 1 [1] (iL (cV 0)) (gN 0) qg (c2 (dIn false) (cV 0) (cV 1)))))))
def uq:=fnD 2 2 Bl
def sX:FS:=(pA (qT 3 (pN qe))
 (pA (u4 (iL (cL (qh sE (a1 (cV 0))))) (gN 4) (qb (yc 3 (c1 (pG r9 "words") (cV 4)))))
 (pA (qT 5 (pN qe))
 (pA (u4 (iL (cV 2)) (gN 6) (qb (yc 5 (A1 (qd (a1 (c1 (pG pI "name") (cV 6)))) (c1 (pG sr "others") (cV 6))))))
 (pA (p6 7 (cL (qS (cL (pH 1 [] (iL (cV 2)) (gN 0) (cT (c2 uk (c1 (pG rD "joining") (cV 0)) (cC D.non))) (c1 (pG rD "joining") (cV 0)))) (cL (pH 1 [] (iL (cV 1)) (gN 0) qg (c2 dIx (cV 0) (cC (.int 1))))))))
 (pA (qb (pC pJ (aCons (pC rU (a1 (cFz 5))) (a1 (cS "two verbs' names are alike")))))
 (pA (qb (pC pJ (aCons (pC uq (aCons (cL (qS (cFz 5) (cV 7))) (a1 (cFz 3)))) (a1 (cS "a verb's, way's or joining word is a word of a thing")))))
 (pA (qb (pC pJ (aCons (pC uq (aCons (cL (qS (cFz 5) (cV 7))) (a1 (cC vh)))) (a1 (cS "the, a, undo or restart is a word of the world")))))
 (qb (pC pJ (aCons (pC uq (aCons (cV 7) (a1 (cFz 5)))) (a1 (cS "a way's or joining word is a verb's name")))))))))))))
def rV:=fnD 3 8 sX
def wb:FS:=(pA (qb (pC vt (a1 (cV 0))))
 (pA (qb (pC v7 (a1 (cV 1))))
 (pA (qb (pC wa (aCons (cV 0) (a1 (cV 1)))))
 (pA (qb (pC vw (a1 (cV 0))))
 (pA (qb (pC rL (a1 (cV 0))))
 (pA (p6 6 (cL (pH 1 [] (iL (cV 0)) (gN 0) (cT (c2 (dEq false) (c1 (pG qy "kind") (cV 0)) (cS "room"))) (c1 (pG pI "name") (cV 0)))))
 (pA (qb (pC xp (aCons (cV 2) (a1 (cV 6)))))
 (pA (qb (pC xt (aCons (cV 3) (aCons (cV 6) (a1 (cL (qh uN (aCons (cV 0) (a1 (cV 1))))))))))
 (pA (qb (pC sJ (a1 (cV 4))))
 (qb (pC rV (aCons (cV 0) (aCons (cV 3) (a1 (cL (qS (cV 4) (cV 5)))))))))))))))))
def wc:=fnD 6 7 wb
def Mu:FS:=(pU (pY 13 (λds=>tu (ds++[])) (aCons (cV 0) (aCons (cV 1) (aCons (cV 2) (aCons (cV 3) (a1 (cC (.bl false)))))))))
def vx:=fnD 4 4 Mu
def Ec:FS:=(pU (pY 13 (λds=>tu (ds++[])) (aCons (cV 0) (aCons (cV 1) (aCons (cL (pN qe)) (aCons (cV 2) (a1 (cC (.bl true)))))))))
def qG:=fnD 3 3 Ec
def Ae:FS:=(qQ (pN (aCons (pC qG (aCons (cS "take") (aCons (cL (pN (a1 (pY 7 (λds=>rP (ds++[])) (aCons (cS "it") (a1 (cS "fixed"))))))) (a1 (cS "That stays."))))) (aCons (pC qG (aCons (cS "take") (aCons (cL (pN (a1 (pY 3 (λds=>yP (ds++[])) (aCons (cS "it") (a1 (cV 0))))))) (a1 (cS "You have that."))))) (aCons (pC vx (aCons (cS "take") (aCons (cL (pN qe)) (aCons (cL (pN (a1 (pY 11 (λds=>su (ds++[])) (aCons (cS "it") (a1 (cV 0))))))) (a1 (cS "Taken.")))))) (aCons (pC vx (aCons (cS "drop") (aCons (cL (pN (a1 (pY 4 (λds=>xk (ds++[])) (a1 (cS "it")))))) (aCons (cL (pN (a1 (pY 11 (λds=>su (ds++[])) (aCons (cS "it") (a1 (cS "here"))))))) (a1 (cS "Dropped.")))))) (a1 (pC qG (aCons (cS "drop") (aCons (cL (pN qe)) (a1 (cS "You lack that."))))))))))))
def xu:=fnN 1 1 Ae
def Bm:FS:=(qQ (pN (aCons (pC qG (aCons (cS "put") (aCons (cL (pN (a1 (pY 9 (λds=>rT (ds++[])) (a1 (pY 4 (λds=>xk (ds++[])) (a1 (cS "it")))))))) (a1 (cS "You lack that."))))) (aCons (pC qG (aCons (cS "put") (aCons (cL (pN (a1 (pY 9 (λds=>rT (ds++[])) (a1 (pY 7 (λds=>rP (ds++[])) (aCons (cS "other") (a1 (cS "box"))))))))) (a1 (cS "It holds nothing."))))) (aCons (pC qG (aCons (cS "put") (aCons (cL (pN (a1 (pY 6 (λds=>qV (ds++[])) (aCons (cS "other") (a1 (cC (.int 0)))))))) (a1 (cS "It is shut."))))) (a1 (pC vx (aCons (cS "put") (aCons (cL (pN qe)) (aCons (cL (pN (a1 (pY 11 (λds=>su (ds++[])) (aCons (cS "it") (a1 (cS "other"))))))) (a1 (cS "Done."))))))))))))
def yu:=fnN 0 0 Bm
def Bn:FS:=(qQ (pN (aCons (pC qG (aCons (cS "open") (aCons (cL (pN (a1 (pY 9 (λds=>rT (ds++[])) (a1 (pY 7 (λds=>rP (ds++[])) (aCons (cS "it") (a1 (cS "box"))))))))) (a1 (cS "It has no lid."))))) (aCons (pC qG (aCons (cS "open") (aCons (cL (pN (a1 (pY 6 (λds=>qV (ds++[])) (aCons (cS "it") (a1 (cC (.int 1)))))))) (a1 (cS "It is open."))))) (aCons (pC vx (aCons (cS "open") (aCons (cL (pN qe)) (aCons (cL (pN (a1 (pY 12 (λds=>sV (ds++[])) (aCons (cS "it") (a1 (cC (.int 1)))))))) (a1 (cS "Opened.")))))) (aCons (pC qG (aCons (cS "shut") (aCons (cL (pN (a1 (pY 9 (λds=>rT (ds++[])) (a1 (pY 7 (λds=>rP (ds++[])) (aCons (cS "it") (a1 (cS "box"))))))))) (a1 (cS "It has no lid."))))) (aCons (pC qG (aCons (cS "shut") (aCons (cL (pN (a1 (pY 6 (λds=>qV (ds++[])) (aCons (cS "it") (a1 (cC (.int 0)))))))) (a1 (cS "It is shut."))))) (a1 (pC vx (aCons (cS "shut") (aCons (cL (pN qe)) (aCons (cL (pN (a1 (pY 12 (λds=>sV (ds++[])) (aCons (cS "it") (a1 (cC (.int 0)))))))) (a1 (cS "Shut."))))))))))))))
def yw:=fnN 0 0 Bn
def zb:FS:=(qQ (pN (aCons (pC qG (aCons (cS "light") (aCons (cL (pN (a1 (pY 9 (λds=>rT (ds++[])) (a1 (pY 7 (λds=>rP (ds++[])) (aCons (cS "it") (a1 (cS "lamp"))))))))) (a1 (cS "It burns not."))))) (aCons (pC qG (aCons (cS "light") (aCons (cL (pN (a1 (pY 6 (λds=>qV (ds++[])) (aCons (cS "it") (a1 (cC (.int 1)))))))) (a1 (cS "It is lit."))))) (aCons (pC vx (aCons (cS "light") (aCons (cL (pN qe)) (aCons (cL (pN (a1 (pY 12 (λds=>sV (ds++[])) (aCons (cS "it") (a1 (cC (.int 1)))))))) (a1 (cS "Lit.")))))) (aCons (pC qG (aCons (cS "douse") (aCons (cL (pN (a1 (pY 9 (λds=>rT (ds++[])) (a1 (pY 7 (λds=>rP (ds++[])) (aCons (cS "it") (a1 (cS "lamp"))))))))) (a1 (cS "It burns not."))))) (aCons (pC qG (aCons (cS "douse") (aCons (cL (pN (a1 (pY 6 (λds=>qV (ds++[])) (aCons (cS "it") (a1 (cC (.int 0)))))))) (a1 (cS "It is out."))))) (a1 (pC vx (aCons (cS "douse") (aCons (cL (pN qe)) (aCons (cL (pN (a1 (pY 12 (λds=>sV (ds++[])) (aCons (cS "it") (a1 (cC (.int 0)))))))) (a1 (cS "Doused."))))))))))))))
def we:=fnN 0 0 zb
def Bo:FS:=(pA (qT 2 (pN (aCons (pY 3 (λds=>yP (ds++[])) (aCons (cV 0) (a1 (c2 dIx (cV 1) (cC (.int 0)))))) (a1 (pY 8 (λds=>yt (ds++[])) (a1 (c2 dIx (cV 1) (cC (.int 1)))))))))
 (pA (sIf (cT (c2 uk (c2 dIx (cV 1) (cC (.int 3))) (cC D.non))) (qb (vT 2 (pY 9 (λds=>rT (ds++[])) (a1 (pY 6 (λds=>qV (ds++[])) (aCons (c2 dIx (cV 1) (cC (.int 3))) (a1 (cC (.int 0))))))))) pQ)
 (qQ (Ds 2))))
def yx:=fnN 2 3 Bo
def zr:FS:=(pA (p6 2 (cL (pH 1 [0] (iL (cV 1)) (gN 0) qg (pC vx (aCons (cS "go") (aCons (cL (qh yx (aCons (cV 1) (a1 (cV 0))))) (aCons (cL (pN (a1 (pY 11 (λds=>su (ds++[])) (aCons (cV 1) (a1 (c2 dIx (cV 0) (cC (.int 2))))))))) (a1 (cS "You go.")))))))))
 (qQ (qS (cV 2) (cL (pN (a1 (pC qG (aCons (cS "go") (aCons (cL (pN qe)) (a1 (cS "No way there.")))))))))))
def zt:=fnN 2 3 zr
def Ag:FS:=(qQ (pN (a1 (pC vx (aCons (cS "wait") (aCons (cL (pN qe)) (aCons (cL (pN qe)) (a1 (cS "Time goes by.")))))))))
def Ah:=fnN 0 0 Ag
def yy:FS:=(qQ (qS (cL (qS (cL (qS (cL (qS (cL (qS (cL (qh xu (a1 (cV 0)))) (cL (qh yu qe)))) (cL (qh yw qe)))) (cL (qh we qe)))) (cL (qh zt (aCons (cV 0) (a1 (cV 1))))))) (cL (qh Ah qe))))
def vy:=fnN 2 2 yy
def yz:FS:=(qQ (qS (cL (pH 1 [] (iT (qd (aCons (cS "take") (aCons (cS "drop") (aCons (cS "open") (aCons (cS "shut") (aCons (cS "light") (a1 (cS "douse"))))))))) (gN 0) qg (pY 2 (λds=>qx (ds++[D.non,(D.str "one"),D.non])) (a1 (cV 0))))) (cL (pN (aCons (pY 2 (λds=>qx (ds++[])) (aCons (cS "put") (aCons (qd qe) (aCons (cS "two") (a1 (cS "in")))))) (aCons (pY 2 (λds=>qx (ds++[D.non])) (aCons (cS "go") (aCons (qd qe) (a1 (cS "way"))))) (a1 (pY 2 (λds=>qx (ds++[D.non])) (aCons (cS "wait") (aCons (qd qe) (a1 (cS "alone"))))))))))))
def tS:=fnN 0 0 yz
def AH:FS:=(pA (DY 1)
 (pA (u4 (iL (cV 0)) (gN 2) (uz 1 (c1 (pG pI "name") (cV 2)) (cV 2)))
 (pU (cFz 1))))
def AI:=fnD 1 3 AH
def uF:FS:=(pA (DY 2)
 (pA (u4 (iL (cV 0)) (gN 3) (sIf (cT (qB rJ "has_mark" (cV 3) qe)) (uz 2 (c1 (pG pI "name") (cV 3)) (cC (.int 1))) pQ))
 (pA (u4 (iL (cV 1)) (gN 4) (uz 2 (c1 (pG pI "name") (cV 4)) (c1 (pG sI "most") (cV 4))))
 (pU (cFz 2)))))
def uG:=fnD 2 5 uF
def xO:FS:=(pA (DY 1)
 (pA (u4 (iL (cV 0)) (gN 2) (u4 (iT (A1 (qd (a1 (c1 (pG pI "name") (cV 2)))) (c1 (pG sr "others") (cV 2)))) (gN 3) (uz 1 (cV 3) (cV 2))))
 (pU (cFz 1))))
def sL:=fnD 1 4 xO
def Ed:FS:=(Hk (pG tR "verb"))
def Ee:=fnD 1 3 Ed
def xP:FS:=(qQ (pH 1 [1] (iL (c1 (pG uB "kept_things") (cV 0))) (gN 0) (cT (c2 (dEq false) (c1 (pG qy "kind") (cV 0)) (cV 1))) (c1 (pG pI "name") (cV 0))))
def uH:=fnD 2 2 xP
def wg:Nat->Option (List D->Option D):=λc=>match c with
 |14=>some uH
 |_=>none
def vQ:FS:=(qQ (qS (c1 (pG yh "kept_verbs") (cV 0)) (c1 (pG wH "shared_verbs") (cV 0))))
def sg:=fnD 1 1 vQ
def rZ:Nat->Option (List D->Option D):=λc=>match c with
 |14=>some sg
 |_=>none
def yA:FS:=(pU (q8 (c1 (qC (qU "str")) (cV 0)) (c2 (dEq false) (cV 0) (cV 1))))
def tT:=fnD 2 2 yA
def Ef:FS:=(pU (pY 13 (λds=>tu (ds++[])) (aCons (c1 (pG tR "verb") (cV 0)) (aCons (c1 (pG AD "tests") (cV 0)) (aCons (c1 (pG yN "deeds") (cV 0)) (aCons (c1 (pG Cy "text") (cV 0)) (a1 (c1 (pG vJ "refuses") (cV 0)))))))))
def AJ:=fnD 1 1 Ef
def wM:FS:=(pU (c2 Ge (c1 (pG vg "things_by_name") (cV 0)) (cV 1)))
def qZ:=fnD 2 2 wM
def rM:Nat->Option (List D->Option D):=λc=>match c with
 |14=>some qZ
 |_=>none
def xQ:FS:=(pU (c2 xJ (c1 (pG vI "mosts_by_name") (cV 0)) (cV 1)))
def sM:=fnD 2 2 xQ
def uh:Nat->Option (List D->Option D):=λc=>match c with
 |14=>some sM
 |_=>none
def xR:FS:=(pU (c2 xJ (c1 (pG vK "verbs_by_word") (cV 0)) (cV 1)))
def r6:=fnD 2 2 xR
def sd:Nat->Option (List D->Option D):=λc=>match c with
 |14=>some r6
 |_=>none
def Bp:FS:=(pU (c1 (pG v3 "your_name") (cV 0)))
def Gh:=fnD 1 1 Bp
def yQ:Nat->Option (List D->Option D):=λc=>match c with
 |14=>some Gh
 |_=>none
def xS:FS:=(pA (sIf (cT (pC tT (aCons (cV 1) (a1 (cS "it"))))) (pU (c2 (dIn false) (cV 0) (qd (aCons (cS "one") (a1 (cS "two")))))) pQ)
 (pU (q8 (pC tT (aCons (cV 1) (a1 (cS "other")))) (c2 (dEq false) (cV 0) (cS "two")))))
def qA:=fnD 2 2 xS
def Eg:FS:=(pU (q8 (c2 uk (cV 0) (cC D.non)) (pC tT (aCons (cV 1) (a1 (cS "here"))))))
def ue:=fnD 2 2 Eg
def IU:FS:=(pU (cIf (cT (c1 (qC (qU "str")) (cV 1))) (qB rM "thing_of" (cV 0) (a1 (cV 1))) (cC D.non)))
def uO:=fnD 2 2 IU
def Ai:FS:=(pU (q8 (c2 uk (pC uO (aCons (cV 0) (a1 (cV 1)))) (cC D.non)) (c2 (dEq false) (c1 (pG qy "kind") (pC uO (aCons (cV 0) (a1 (cV 1))))) (cV 2))))
def uP:=fnD 3 3 Ai
def Eh:FS:=(pU (cOr (pC qA (aCons (cV 1) (a1 (cV 2)))) (cOr (pC ue (aCons (cV 1) (a1 (cV 2)))) (c2 uk (pC uO (aCons (cV 0) (a1 (cV 2)))) (cC D.non)))))
def wN:=fnD 3 3 Eh
def zu:FS:=(pA (sIf (tL (cT (pC qA (aCons (cV 1) (a1 (cV 2))))) (cT (pC ue (aCons (cV 1) (a1 (cV 2)))))) (pU (cC (.bl true))) pQ)
 (pU (q8 (c2 uk (pC uO (aCons (cV 0) (a1 (cV 2)))) (cC D.non)) (qB qM "can_hold" (pC uO (aCons (cV 0) (a1 (cV 2)))) qe))))
def xx:=fnD 3 3 zu
def zv:FS:=(pA (sIf (cT (pC qA (aCons (cV 1) (a1 (cV 2))))) (pU (cC (.bl true))) pQ)
 (pU (q8 (c2 uk (pC uO (aCons (cV 0) (a1 (cV 2)))) (cC D.non)) (zg (pC uP (aCons (cV 0) (aCons (cV 2) (a1 (cS "room")))))))))
def zw:=fnD 3 3 zv
def sN:FS:=(pA (sIf (tL (rO (cT (pC vn (a1 (cV 3))))) (cT (c2 Bx (cV 3) (cC (.int 0))))) (pU (cC (.bl false))) pQ)
 (pA (sIf (cT (pC qA (aCons (cV 1) (a1 (cV 2))))) (pU (c2 va (cV 3) (cC vO))) pQ)
 (pA (p6 4 (cIf (cT (c1 (qC (qU "str")) (cV 2))) (qB uh "most_of" (cV 0) (a1 (cV 2))) (cC D.non)))
 (pU (q8 (c2 uk (cV 4) (cC D.non)) (c2 va (cV 3) (cV 4)))))))
def sO:=fnD 4 5 sN
def AK:FS:=(pA (sIf (tL (rO (cT (pC zw (aCons (cV 0) (aCons (cV 1) (a1 (c1 (pG tQ "term") (cV 2)))))))) (rO (cT (pC xx (aCons (cV 0) (aCons (cV 1) (a1 (c1 (pG yO "place") (cV 2))))))))) (pU (cC (.bl false))) pQ)
 (pU (cOr (c2 (dEq true) (c1 (pG tQ "term") (cV 2)) (qB yQ "you" (cV 0) qe)) (pC uP (aCons (cV 0) (aCons (c1 (pG yO "place") (cV 2)) (a1 (cS "room"))))))))
def AL:=fnD 3 3 AK
def Ei:FS:=(pU (q8 (c1 (qC (qU "str")) (cV 0)) (sQ va va (cC (.int 1)) (c1 qR (cV 0)) (cC z6))))
def wQ:=fnD 1 1 Ei
def yB:FS:=(pU (q8 (pC sA (a1 (cV 1))) (q8 (c2 uk (qB sd "verb_of" (cV 0) (a1 (cV 1))) (cC D.non)) (c2 (dEq false) (c1 (pG pI "name") (qB sd "verb_of" (cV 0) (a1 (cV 1)))) (cV 1)))))
def vz:=fnD 2 2 yB
def vR:FS:=(pU (q8 (c1 (qC (qU "bool")) (c1 (pG vJ "refuses") (cV 0))) (cOr (zg (c1 (pG vJ "refuses") (cV 0))) (c2 (dEq false) (c1 (pG yN "deeds") (cV 0)) (cL (pN qe))))))
def tU:=fnD 1 1 vR
def qH:FS:=(pA (sIf (cT (c1 (qC Vj) (cV 2))) (pU (q8 (pC wN (aCons (cV 0) (aCons (cV 1) (a1 (c1 (pG tQ "term") (cV 2)))))) (pC xx (aCons (cV 0) (aCons (cV 1) (a1 (c1 (pG yO "place") (cV 2)))))))) pQ)
 (pA (sIf (cT (c1 (qC (tOr PD Mq)) (cV 2))) (pU (pC wN (aCons (cV 0) (aCons (cV 1) (a1 (c1 (pG tQ "term") (cV 2))))))) pQ)
 (pA (sIf (cT (c1 (qC Gg) (cV 2))) (pU (pC sO (aCons (cV 0) (aCons (cV 1) (aCons (c1 (pG tQ "term") (cV 2)) (a1 (c1 (pG AE "value") (cV 2)))))))) pQ)
 (pA (sIf (cT (c1 (qC Ml) (cV 2))) (pU (q8 (pC wN (aCons (cV 0) (aCons (cV 1) (a1 (c1 (pG tQ "term") (cV 2)))))) (pC ql (aCons (c1 (pG qy "kind") (cV 2)) (a1 (cC xi)))))) pQ)
 (pA (sIf (cT (c1 (qC Ms) (cV 2))) (pU (q8 (c2 (dEq false) (cV 1) (cS "way")) (pC sC (a1 (c1 (pG Gf "word") (cV 2)))))) pQ)
 (pU (c1 (qC PF) (cV 2))))))))
def uI:=fnD 3 3 qH
def tw(g:List D->Option D):FS:=(pA (sIf (cT (c2 (dEq false) (cV 3) (cC (.int 0)))) (pU (cC (.bl false))) pQ)
 (pA (sIf (cT (c1 (qC Mo) (cV 2))) (pU (pC g (aCons (cV 0) (aCons (cV 1) (aCons (c1 (pG D4 "inner") (cV 2)) (a1 (c2 x8 (cV 3) (cC (.int 1))))))))) pQ)
 (pA (sIf (cT (c1 (qC Hv) (cV 2))) (pU (q8 (pC g (aCons (cV 0) (aCons (cV 1) (aCons (c1 (pG IR "one") (cV 2)) (a1 (c2 x8 (cV 3) (cC (.int 1)))))))) (pC g (aCons (cV 0) (aCons (cV 1) (aCons (c1 (pG D5 "other") (cV 2)) (a1 (c2 x8 (cV 3) (cC (.int 1)))))))))) pQ)
 (pU (pC uI (aCons (cV 0) (aCons (cV 1) (a1 (cV 2)))))))))
def tD:Nat->List D->Option D
 |0=>fnD 4 4 Ox
 |n+1=>fnD 4 4 (tw (tD n))
def yR:FS:=(pA (sIf (cT (c1 (qC PH) (cV 2))) (pU (pC sO (aCons (cV 0) (aCons (cV 1) (aCons (c1 (pG tQ "term") (cV 2)) (a1 (c1 (pG AE "value") (cV 2)))))))) pQ)
 (pU (q8 (c1 (qC Mn) (cV 2)) (pC AL (aCons (cV 0) (aCons (cV 1) (a1 (cV 2))))))))
def AM:=fnD 3 3 yR
def Bq:FS:=(pU (q8 (pC qw (aCons (cV 2) (a1 (cC z4)))) (c1 uy (cL (pH 1 [0,1] (iL (cV 2)) (gN 0) qg (pC (tD 4) (aCons (cV 1) (aCons (cV 2) (aCons (cV 0) (a1 (cC A8)))))))))))
def yC:=fnD 3 3 Bq
def Br:FS:=(pU (q8 (pC qw (aCons (cV 2) (a1 (cC z5)))) (c1 uy (cL (pH 1 [0,1] (iL (cV 2)) (gN 0) qg (pC AM (aCons (cV 1) (aCons (cV 2) (a1 (cV 0))))))))))
def yD:=fnD 3 3 Br
def AN:FS:=(pA (sIf (tL (rO (cT (c1 (qC Mp) (cV 1)))) (tL (rO (cT (pC vz (aCons (cV 0) (a1 (c1 (pG tR "verb") (cV 1))))))) (rO (cT (pC wQ (a1 (c1 (pG Cy "text") (cV 1)))))))) (pU (cC (.bl false))) pQ)
 (pA (p6 2 (c1 (pG rH "form") (qB sd "verb_of" (cV 0) (a1 (c1 (pG tR "verb") (cV 1))))))
 (pU (q8 (pC yC (aCons (cV 0) (aCons (cV 2) (a1 (c1 (pG AD "tests") (cV 1)))))) (q8 (pC yD (aCons (cV 0) (aCons (cV 2) (a1 (c1 (pG yN "deeds") (cV 1)))))) (pC tU (a1 (cV 1))))))))
def AO:=fnD 2 3 AN
def tV:FS:=(pA (qb (pC wc (aCons (cV 1) (aCons (cV 2) (aCons (cV 3) (aCons (cV 4) (aCons (cV 5) (a1 (cL (qh tS qe))))))))))
 (pA (qq 14 0 "kept_things" (cL (yZ (cV 1))))
 (pA (qq 14 0 "kept_marks" (cL (yZ (cV 2))))
 (pA (qq 14 0 "kept_dark" (cL (yZ (cV 3))))
 (pA (qq 14 0 "kept_ways" (cL (yZ (cV 4))))
 (pA (qq 14 0 "kept_verbs" (cL (yZ (cV 5))))
 (pA (qq 14 0 "shared_verbs" (cL (qh tS qe)))
 (pA (qq 14 0 "your_name" (y6 16 (c2 dIx (qB wg "of_kind" (cV 0) (a1 (cS "you"))) (cC (.int 0)))))
 (pA (qq 14 0 "things_by_name" (pC AI (a1 (cV 1))))
 (pA (qq 14 0 "mosts_by_name" (pC uG (aCons (cV 1) (a1 (cV 2)))))
 (pA (qq 14 0 "verbs_by_word" (y6 16 (pC sL (a1 (qB rZ "all_verbs" (cV 0) qe)))))
 (pA (p6 7 (y6 16 (q8 (pC qw (aCons (cV 6) (a1 (cC Aa)))) (c1 uy (cL (pH 1 [0] (iL (cV 6)) (gN 0) qg (pC AO (aCons (cV 1) (a1 (cV 0))))))))))
 (pA (qb (pC pJ (aCons (cV 7) (a1 (cS "rules are a list of at most 20 rules, each as it may be")))))
 (pA (qq 14 0 "kept_rules" (cL (yZ (cV 6))))
 (pA (qq 14 0 "shared_rules" (y6 16 (cL (qh vy (aCons (c1 (pG v3 "your_name") (cV 0)) (a1 (cV 4)))))))
 (pA (qq 14 0 "copied_rules" (cL (pH 1 [] (iL (cV 6)) (gN 0) qg (pC AJ (a1 (cV 0))))))
 (qq 14 0 "rules_by_verb" (y6 16 (pC Ee (a1 (cL (qS (c1 (pG wF "copied_rules") (cV 0)) (c1 (pG wG "shared_rules") (cV 0))))))))))))))))))))))))
def tW:=fnI 14 6 8 tV
def zc:FS:=(qQ (pH 1 [] (iL (c1 (pG uB "kept_things") (cV 0))) (gN 0) qg (c1 (pG pI "name") (cV 0))))
def wj:=fnD 1 1 zc
def tE:Nat->Option (List D->Option D):=λc=>match c with
 |14=>some wj
 |_=>none
def vS:FS:=(qQ (cSortX (cL (pH 1 [] (iL (c1 (pG vZ "kept_ways") (cV 0))) (gN 0) qg (c2 dIx (cV 0) (cC (.int 1)))))))
def tX:=fnD 1 1 vS
def sP:Nat->Option (List D->Option D):=λc=>match c with
 |14=>some tX
 |_=>none
def sF:FS:=(pA (sIf (cT (c2 (dEq false) (cV 1) (cS "alone"))) (qQ (pN (a1 (qd (aCons (cC D.non) (a1 (cC D.non))))))) pQ)
 (pA (sIf (cT (c2 (dEq false) (cV 1) (cS "way"))) (qQ (pH 1 [] (iL (qB sP "way_words" (cV 0) qe)) (gN 0) qg (qd (aCons (cV 0) (a1 (cC D.non)))))) pQ)
 (pA (p6 2 (cL (pH 1 [0] (iL (qB tE "names" (cV 0) qe)) (gN 0) (cT (qB qY "is_plainly" (qB rM "thing_of" (cV 1) (a1 (cV 0))) qe)) (cV 0))))
 (pA (sIf (cT (c2 (dEq false) (cV 1) (cS "one"))) (qQ (pH 1 [] (iL (cV 2)) (gN 0) qg (qd (aCons (cV 0) (a1 (cC D.non)))))) pQ)
 (pA (qT 3 (pN qe))
 (pA (u4 (iL (cV 2)) (gN 4) (qb (Bw 3 (pH 1 [4] (iL (cV 2)) (gN 0) qg (qd (aCons (cV 1) (a1 (cV 0))))))))
 (qQ (Ds 3))))))))
def rW:=fnN 2 5 sF
def zx:FS:=(pA (qT 1 (pN qe))
 (pA (u4 (iL (qB rZ "all_verbs" (cV 0) qe)) (gN 2) (qb (Bw 1 (pH 2 [2] (iL (cL (qh rW (aCons (cV 0) (a1 (c1 (pG rH "form") (cV 2))))))) (gT (qD (gN 0) (qD (gN 1) vG)) 2) qg (qd (aCons (c1 (pG pI "name") (cV 2)) (aCons (cV 0) (a1 (cV 1)))))))))
 (qQ (Ds 1))))
def vA:=fnN 1 3 zx
def yE:FS:=(pA (sIf (cT (c2 Bx (cV 1) (c1 qR (cV 0)))) (pU (c2 dIx (cV 0) (cV 1))) pQ)
 (pU (cC (.int 0))))
def rN:=fnD 2 2 yE
def uQ:FS:=(pA (sIf (uo (cT (c2 (dEq false) (c1 qR (cV 0)) (cC (.int 1))))) (pA (p6 2 (vb (c2 dIx (cV 0) (cC (.int 0)))))
 (pA (vU 0 0 (c2 sZ (cV 2) (c1 zj (c2 QW (cV 2) (c2 Li (cC (.int 10)) (cC (.int 18)))))))
 (qb (Bw 0 (pN (aCons (c2 ua (cV 2) (cC (.int 2147483647))) (a1 (cC (.int 0))))))))) pQ)
 (pA (sIf (uo (cT (c2 Du (c2 dIx (cV 0) (cC (.int 0))) (cC (.int 0))))) (pA (p6 3 (vb (c2 ua (c2 dIx (cV 0) (cC (.int 0))) (cV 1))))
 (pA (vU 0 0 (vb (c2 yY (c2 dIx (cV 0) (cC (.int 0))) (cV 1))))
 (pU (cV 3)))) pQ)
 (pA (vU 0 2 (vb (c2 qO (c2 dIx (cV 0) (cC (.int 2))) (cC (.int 1)))))
 (pA (p6 4 (vb (c2 ua (c2 sZ (c2 qO (c2 qO (c2 dIx (cV 0) (cC (.int 1))) (c2 sZ (cC (.int 7919)) (c2 dIx (cV 0) (cC (.int 2))))) (cC (.int 1))) (cC (.int 48271))) (cC (.int 2147483647)))))
 (pA (p6 4 (c2 ua (c2 sZ (cV 4) (c2 qO (c2 yY (cV 4) (cC (.int 1009))) (cC (.int 69621)))) (cC (.int 2147483647))))
 (pU (c2 ua (c2 ua (c2 sZ (cV 4) (c2 qO (c2 yY (cV 4) (cC (.int 2003))) (cC (.int 40692)))) (cC (.int 2147483399))) (cV 1))))))))
def pq:=fnM 1 5 uQ
def Aj:FS:=(qQ (pH 1 [1] (iL (cV 0)) (gN 0) (cT (c2 (dIn false) (c1 (pG qy "kind") (cV 0)) (cV 1))) (c1 (pG pI "name") (cV 0))))
def pS:=fnN 2 2 Aj
def wm:FS:=(pA (p6 1 (cL (zk (cL (pN (aCons (cS "hall") (aCons (cS "x") (aCons (cS "cellar") (aCons (cS "loft") (a1 (cS "porch")))))))) oNo (oAt (c2 qO (cC (.int 1)) (p8 pq 0 (a1 (cC (.int 5)))))))))
 (pA (qT 2 (pH 1 [] (iL (cV 1)) (gN 0) qg (pY 0 (λds=>sD (ds++[D.non])) (aCons (cV 0) (aCons (qd (aCons (cV 0) (a1 (cS "place")))) (a1 (cS "room")))))))
 (pA (qb (vT 2 (pY 0 (λds=>sD (ds++[])) (aCons (cS "me") (aCons (qd (aCons (cS "me") (a1 (cS "self")))) (aCons (cS "you") (a1 (c2 dIx (cV 1) (p8 pq 0 (a1 (c1 qR (cV 1))))))))))))
 (pA (qT 3 (qS (cV 1) (cL (pN (a1 (cS "me"))))))
 (pA (p6 4 (cL (pN (aCons (qd (aCons (cS "chest") (a1 (qd (aCons (cS "old") (a1 (cS "chest"))))))) (aCons (qd (aCons (cS "lamp") (a1 (qd (aCons (cS "lamp") (a1 (cS "red"))))))) (aCons (qd (aCons (cS "stone") (a1 (qd (aCons (cS "red") (a1 (cS "stone"))))))) (a1 (qd (aCons (cS "key") (a1 (qd (a1 (cS "key")))))))))))))
 (pA (p6 4 (cL (qS (cV 4) (cL (pN (aCons (qd (aCons (cS "itch") (a1 (qd (aCons (cS "old") (aCons (cS "red") (a1 (cS "rag")))))))) (aCons (qd (aCons (cS "heretic") (a1 (qd (aCons (cS "stone") (a1 (cS "man"))))))) (a1 (qd (aCons (cS "others") (a1 (qd (aCons (cS "book") (aCons (cS "of") (a1 (cS "old"))))))))))))))))
 (pA (p6 5 (p8 pq 0 (a1 (cC (.int 7)))))
 (pA (u4 (iR1 (p8 pq 0 (a1 (cC (.int 8))))) (gN 6) (pA (Dr (c2 dIx (cV 4) (c2 ua (c2 qO (cV 6) (cV 5)) (cC (.int 7)))) (gT (qD (gN 7) (qD (gN 8) vG)) 2))
 (pA (p6 9 (c2 dIx (cL (pN (aCons (cS "plain") (aCons (cS "box") (aCons (cS "lamp") (aCons (cS "box") (aCons (cS "fixed") (a1 (cS "plain"))))))))) (p8 pq 0 (a1 (cC (.int 6))))))
 (pA (qb (vT 2 (pY 0 (λds=>sD (ds++[])) (aCons (cV 7) (aCons (cV 8) (aCons (cV 9) (a1 (EK 3 (p8 pq 0 (a1 (vb (c1 qR (cV 3)))))))))))))
 (sIf (cT (c2 (dEq false) (cV 9) (cS "box"))) (qb (vT 3 (cV 7))) pQ)))))
 (pA (p6 5 (p8 pq 0 (a1 (vb (c1 qR (cV 2))))))
 (qQ (qS (cL (zk (cFz 2) (oAt (cV 5)) oNo)) (cL (zk (cFz 2) oNo (oAt (cV 5)))))))))))))))
def wt:=fnM 0 10 wm
def xy:FS:=(pA (qT 1 (pN qe))
 (pA (u4 (iL (cL (zk (cL (pN (aCons (cS "gate") (aCons (cS "luck") (aCons (cS "tide") (a1 (cS "i"))))))) oNo (oAt (p8 pq 0 (a1 (cC (.int 5)))))))) (gN 2) (pA (p6 3 (c2 qO (cC (.int 1)) (p8 pq 0 (a1 (cC (.int 3))))))
 (qb (vT 1 (pY 1 (λds=>yn (ds++[])) (aCons (cV 2) (aCons (p8 pq 0 (a1 (c2 qO (cV 3) (cC (.int 1))))) (a1 (cV 3)))))))))
 (qQ (Ds 1))))
def xA:=fnM 0 4 xy
def yF:FS:=(pA (p6 3 (cL (qh pS (aCons (cV 1) (a1 (cL (pN (a1 (cS "room")))))))))
 (pA (p6 4 (cL (qS (cL (qS (cL (pN (aCons (cC D.non) (a1 (cC D.non))))) (cL (pH 1 [] (iL (cV 2)) (gN 0) qg (c1 (pG pI "name") (cV 0)))))) (cL (qh pS (aCons (cV 1) (a1 (cL (pN (aCons (cS "box") (a1 (cS "lamp"))))))))))))
 (pA (qT 5 (pN qe))
 (pA (u4 (iR1 (p8 pq 0 (a1 (cC (.int 9))))) (gN 6) (pA (p6 7 (c2 dIx (cV 3) (p8 pq 0 (a1 (c1 qR (cV 3))))))
 (pA (p6 8 (c2 dIx (cL (pN (aCons (cS "north") (aCons (cS "up") (aCons (cS "outside") (a1 (cS "north"))))))) (p8 pq 0 (a1 (cC (.int 4))))))
 (pA (p6 9 (c2 dIx (cV 3) (p8 pq 0 (a1 (c1 qR (cV 3))))))
 (pA (p6 10 (c2 dIx (cV 4) (p8 pq 0 (a1 (c1 qR (cV 4))))))
 (sIf (uo (cT (c2 dNiT (qd (aCons (cV 7) (a1 (cV 8)))) (cL (pH 1 [] (iL (cV 5)) (gN 0) qg (Hr (cV 0) none (some 2))))))) (qb (vT 5 (qd (aCons (cV 7) (aCons (cV 8) (aCons (cV 9) (a1 (cV 10)))))))) pQ))))))
 (qQ (Ds 5))))))
def yG:=fnM 2 11 yF
def xB:FS:=(pA (p6 1 (cL (pN (aCons (pY 2 (λds=>qx (ds++[(D.str "one"),D.non])) (aCons (cS "push") (a1 (qd (aCons (cS "shove") (a1 (cS "p"))))))) (aCons (pY 2 (λds=>qx (ds++[])) (aCons (cS "tie") (aCons (qd qe) (aCons (cS "two") (a1 (cS "to")))))) (a1 (pY 2 (λds=>qx (ds++[D.non])) (aCons (cS "sing") (aCons (qd (a1 (cS "hum"))) (a1 (cS "alone")))))))))))
 (pA (p6 1 (cL (qS (cV 1) (cL (pN (aCons (pY 2 (λds=>qx (ds++[D.non])) (aCons (cS "swim") (aCons (qd (a1 (cS "dive"))) (a1 (cS "way"))))) (aCons (pY 2 (λds=>qx (ds++[])) (aCons (cS "takes") (aCons (qd qe) (aCons (cS "two") (a1 (cS "in")))))) (a1 (pY 2 (λds=>qx (ds++[D.non])) (aCons (cS "w") (aCons (qd qe) (a1 (cS "alone")))))))))))))
 (pA (p6 2 (p8 pq 0 (a1 (cC (.int 6)))))
 (qQ (zk (cL (qS (cL (zk (cV 1) (oAt (cV 2)) oNo)) (cL (zk (cV 1) oNo (oAt (cV 2)))))) oNo (oAt (p8 pq 0 (a1 (cC (.int 7))))))))))
def xC:=fnM 0 3 xB
def sv:FS:=(pA (p6 3 (cL (qS (cV 2) (cL (pN (a1 (cS "here")))))))
 (pA (sIf (cT (c2 (dIn false) (cV 1) (cL (pN (aCons (cS "one") (a1 (cS "two"))))))) (p6 3 (cL (qS (cV 3) (cL (pN (aCons (cS "it") (a1 (cS "it")))))))) pQ)
 (pA (sIf (cT (c2 (dEq false) (cV 1) (cS "two"))) (p6 3 (cL (qS (cV 3) (cL (pN (aCons (cS "other") (a1 (cS "other")))))))) pQ)
 (pU (c2 dIx (cV 3) (p8 pq 0 (a1 (c1 qR (cV 3)))))))))
def qW:=fnM 2 4 sv
def qJ:FS:=(pA (qT 4 (qS (cL (pH 1 [] (iL (cV 3)) (gN 0) qg (qd (aCons (c1 (pG pI "name") (cV 0)) (a1 (c1 (pG sI "most") (cV 0))))))) (cL (pH 1 [] (iL (cL (qh pS (aCons (cV 2) (a1 (cL (pN (aCons (cS "box") (a1 (cS "lamp")))))))))) (gN 0) qg (qd (aCons (cV 0) (a1 (cC (.int 1)))))))))
 (pA (sIf (cT (c2 (dIn false) (cV 1) (cL (pN (aCons (cS "one") (a1 (cS "two"))))))) (qT 4 (qS (cFz 4) (cL (pN (aCons (qd (aCons (cS "it") (a1 (cC (.int 3))))) (a1 (qd (aCons (cS "it") (a1 (cC (.int 1))))))))))) pQ)
 (pA (sIf (cT (c2 (dEq false) (cV 1) (cS "two"))) (qb (vT 4 (qd (aCons (cS "other") (a1 (cC (.int 3))))))) pQ)
 (pA (sIf (uo (cT (c2 (dEq false) (cV 4) (cL (pN qe))))) (pU (cC D.non)) pQ)
 (pU (EK 4 (p8 pq 0 (a1 (vb (c1 qR (cV 4)))))))))))
def qK:=fnM 3 5 qJ
def ui:FS:=(pA (p6 4 (p8 qK 0 (aCons (cV 1) (aCons (cV 2) (a1 (cV 3))))))
 (pA (sIf (cT (c2 zQ (cV 4) (cC D.non))) (pU (O1 15)) pQ)
 (pU (pY 6 (λds=>qV (ds++[])) (aCons (c2 dIx (cV 4) (cC (.int 0))) (a1 (p8 pq 0 (a1 (c2 qO (c2 dIx (cV 4) (cC (.int 1))) (cC (.int 1)))))))))))
def wu:=fnM 3 5 ui
def qt(g:List D->List D->Option (D×List D)):FS:=(pA (p6 5 (cL (pH 1 [] (iL (cV 2)) (gN 0) qg (c1 (pG pI "name") (cV 0)))))
 (pA (p6 6 (cL (qh pS (aCons (cV 2) (a1 (cL (pN (aCons (cS "room") (aCons (cS "box") (a1 (cS "you")))))))))))
 (pA (p6 7 (p8 pq 0 (a1 (c2 qO (cC (.int 8)) (c2 sZ (cC (.int 2)) (c1 zj (c2 Du (cV 4) (cC (.int 0)))))))))
 (pA (sIf (cT (c2 Bx (cV 7) (cC (.int 2)))) (pU (pY 3 (λds=>yP (ds++[])) (aCons (p8 qW 0 (aCons (cV 1) (a1 (cV 5)))) (a1 (p8 qW 0 (aCons (cV 1) (a1 (cV 6)))))))) pQ)
 (pA (sIf (cT (c2 (dEq false) (cV 7) (cC (.int 2)))) (pU (pY 4 (λds=>xk (ds++[])) (a1 (p8 qW 0 (aCons (cV 1) (a1 (cV 5))))))) pQ)
 (pA (sIf (cT (c2 (dEq false) (cV 7) (cC (.int 3)))) (pU (pY 5 (λds=>Bc (ds++[])) (a1 (p8 qW 0 (aCons (cV 1) (a1 (cV 5))))))) pQ)
 (pA (sIf (cT (c2 (dEq false) (cV 7) (cC (.int 4)))) (pA (p6 8 (cL (pN (aCons (cS "plain") (aCons (cS "fixed") (aCons (cS "box") (aCons (cS "lamp") (aCons (cS "room") (a1 (cS "you"))))))))))
 (pU (pY 7 (λds=>rP (ds++[])) (aCons (p8 qW 0 (aCons (cV 1) (a1 (cV 5)))) (a1 (c2 dIx (cV 8) (p8 pq 0 (a1 (cC (.int 6)))))))))) pQ)
 (pA (sIf (cT (c2 (dEq false) (cV 7) (cC (.int 5)))) (pU (O1 15)) pQ)
 (pA (sIf (tZ (cT (c2 (dEq false) (cV 7) (cC (.int 6)))) (cT (c2 (dEq false) (cV 1) (cS "way")))) (pU (pY 8 (λds=>yt (ds++[])) (a1 (c2 dIx (cL (pN (aCons (cS "north") (aCons (cS "up") (aCons (cS "outside") (a1 (cS "down"))))))) (p8 pq 0 (a1 (cC (.int 4)))))))) pQ)
 (pA (sIf (cT (c2 Bx (cV 7) (cC (.int 8)))) (pU (p8 wu 0 (aCons (cV 1) (aCons (cV 2) (a1 (cV 3)))))) pQ)
 (pA (sIf (cT (c2 (dEq false) (cV 7) (cC (.int 8)))) (pU (pY 9 (λds=>rT (ds++[])) (a1 (p8 g 0 (aCons (cV 1) (aCons (cV 2) (aCons (cV 3) (a1 (c2 x8 (cV 4) (cC (.int 1))))))))))) pQ)
 (pA (p6 9 (p8 g 0 (aCons (cV 1) (aCons (cV 2) (aCons (cV 3) (a1 (c2 x8 (cV 4) (cC (.int 1)))))))))
 (pU (pY 10 (λds=>Bh (ds++[])) (aCons (cV 9) (a1 (p8 g 0 (aCons (cV 1) (aCons (cV 2) (aCons (cV 3) (a1 (c2 x8 (cV 4) (cC (.int 1))))))))))))))))))))))))
def qN:Nat->List D->List D->Option (D×List D)
 |0=>fnM 4 10 Ox
 |n+1=>fnM 4 10 (qt (qN n))
def ur:FS:=(pA (p6 4 (p8 qK 0 (aCons (cV 1) (aCons (cV 2) (a1 (cV 3))))))
 (pA (sIf (tZ (cT (c2 uk (cV 4) (cC D.non))) (cT (c2 (dEq false) (p8 pq 0 (a1 (cC (.int 2)))) (cC (.int 1))))) (pU (pY 12 (λds=>sV (ds++[])) (aCons (c2 dIx (cV 4) (cC (.int 0))) (a1 (p8 pq 0 (a1 (c2 qO (c2 dIx (cV 4) (cC (.int 1))) (cC (.int 1))))))))) pQ)
 (pA (p6 5 (cL (qh pS (aCons (cV 2) (a1 (cL (pN (aCons (cS "plain") (aCons (cS "fixed") (aCons (cS "box") (a1 (cS "lamp"))))))))))))
 (pA (sIf (tZ (cT (c2 (dIn false) (cV 1) (cL (pN (aCons (cS "one") (a1 (cS "two"))))))) (tL (cT (c2 (dEq false) (cV 5) (cL (pN qe)))) (cT (c2 (dEq false) (p8 pq 0 (a1 (cC (.int 2)))) (cC (.int 1)))))) (p6 5 (cL (pN (aCons (cS "it") (aCons (cS "it") (a1 (c2 dIx (cL (pN (aCons (cS "it") (a1 (cS "other"))))) (c1 zj (c2 (dEq false) (cV 1) (cS "two")))))))))) pQ)
 (pA (p6 6 (cL (qh pS (aCons (cV 2) (a1 (cL (pN (a1 (cS "room")))))))))
 (pA (sIf (tL (cT (c2 (dEq false) (cV 5) (cL (pN qe)))) (cT (c2 (dEq false) (p8 pq 0 (a1 (cC (.int 4)))) (cC (.int 0))))) (pU (pY 11 (λds=>su (ds++[])) (aCons (cS "me") (a1 (c2 dIx (cV 6) (p8 pq 0 (a1 (c1 qR (cV 6))))))))) pQ)
 (pA (p6 7 (cL (qh pS (aCons (cV 2) (a1 (cL (pN (aCons (cS "room") (aCons (cS "box") (a1 (cS "you")))))))))))
 (pU (pY 11 (λds=>su (ds++[])) (aCons (c2 dIx (cV 5) (p8 pq 0 (a1 (c1 qR (cV 5))))) (a1 (p8 qW 0 (aCons (cV 1) (a1 (cV 7)))))))))))))))
def tG:=fnM 3 8 ur
def xD:FS:=(pA (p6 5 (cL (pN (aCons (qd (aCons (cS "take") (a1 (cS "one")))) (aCons (qd (aCons (cS "open") (a1 (cS "one")))) (aCons (qd (aCons (cS "put") (a1 (cS "two")))) (aCons (qd (aCons (cS "go") (a1 (cS "way")))) (aCons (qd (aCons (cS "wait") (a1 (cS "alone")))) (a1 (qd (aCons (cS "drop") (a1 (cS "one")))))))))))))
 (pA (p6 5 (cL (qS (cV 5) (cL (cRep (cL (pH 1 [] (iL (cV 3)) (gN 0) qg (qd (aCons (c1 (pG pI "name") (cV 0)) (a1 (c1 (pG rH "form") (cV 0))))))) (cC (.int 2)))))))
 (pA (qT 6 (pN qe))
 (pA (u4 (iR1 (p8 pq 0 (a1 (c2 qO (cV 4) (cC (.int 1)))))) (gN 7) (pA (Dr (c2 dIx (cV 5) (p8 pq 0 (a1 (c1 qR (cV 5))))) (gT (qD (gN 8) (qD (gN 9) vG)) 2))
 (pA (p6 10 (cL (pH 1 [0,9,1,2] (iR1 (p8 pq 0 (a1 (cC (.int 4))))) (gN 0) qg (p8 (qN 3) 1 (aCons (cV 2) (aCons (cV 3) (aCons (cV 4) (a1 (cC (.int 2))))))))))
 (pA (p6 11 (c2 (dEq false) (p8 pq 0 (a1 (cC (.int 4)))) (cC (.int 0))))
 (pA (p6 12 (cL (pH 1 [0,9,1,2] (iR1 (c2 sZ (p8 pq 0 (a1 (cC (.int 4)))) (c1 zj (zg (cV 11))))) (gN 0) qg (p8 tG 1 (aCons (cV 2) (aCons (cV 3) (a1 (cV 4))))))))
 (qb (vT 6 (pY 13 (λds=>tu (ds++[])) (aCons (cV 8) (aCons (cV 10) (aCons (cV 12) (aCons (c2 ya (c2 ya (cS "Text ") (c1 dStrI (cV 7))) (c2 Cj (cS ".") (c2 qO (cC (.int 1)) (p8 pq 0 (a1 (cC (.int 9))))))) (a1 (cV 11))))))))))))))
 (qQ (Ds 6))))))
def xE:=fnM 4 13 xD
def yH:FS:=(pA (p6 2 (p8 wt 0 qe))
 (pA (p6 3 (p8 xA 0 qe))
 (pA (p6 4 (cL (pH 1 [0] (iL (cL (qh pS (aCons (cV 2) (a1 (cL (pN (a1 (cS "room"))))))))) (gN 0) (cT (c2 (dEq false) (p8 pq 1 (a1 (cC (.int 3)))) (cC (.int 0)))) (cV 0))))
 (pA (p6 5 (p8 yG 0 (aCons (cV 2) (a1 (cV 3)))))
 (pA (p6 6 (p8 xC 0 qe))
 (qQ (pN (aCons (cV 2) (aCons (cV 3) (aCons (cV 4) (aCons (cV 5) (aCons (cV 6) (a1 (p8 xE 0 (aCons (cV 2) (aCons (cV 3) (aCons (cV 6) (a1 (cV 1)))))))))))))))))))
def tH:=fnM 1 7 yH
def zy:FS:=(pA (p6 3 (cL (pH 1 [] (iL (cV 0)) (gN 0) (cT (c2 (dIn true) (c1 (pG qy "kind") (cV 0)) (cL (pN (aCons (cS "room") (a1 (cS "you"))))))) (c1 (pG pI "name") (cV 0)))))
 (pA (p6 4 (cL (pH 1 [1] (iL (cL (pN (aCons (cS "north") (aCons (cS "outside") (a1 (cS "up"))))))) (gN 0) (cT (c2 (dIn false) (cV 0) (cL (pH 1 [] (iL (cV 1)) (gN 0) qg (c2 dIx (cV 0) (cC (.int 1))))))) (cV 0))))
 (pA (p6 5 (cL (pH 1 [] (iL (cV 2)) (gN 0) qg (qd (aCons (c1 (pG pI "name") (cV 0)) (a1 (c1 (pG rH "form") (cV 0))))))))
 (pA (p6 5 (cL (qS (cV 5) (cL (pH 1 [] (iL (cL (pN (aCons (cS "take") (aCons (cS "drop") (aCons (cS "open") (aCons (cS "shut") (aCons (cS "light") (a1 (cS "douse")))))))))) (gN 0) qg (qd (aCons (cV 0) (a1 (cS "one")))))))))
 (pA (p6 5 (cL (qS (cV 5) (cL (pN (aCons (qd (aCons (cS "put") (a1 (cS "two")))) (aCons (qd (aCons (cS "go") (a1 (cS "way")))) (a1 (qd (aCons (cS "wait") (a1 (cS "alone"))))))))))))
 (pA (qT 6 (pN qe))
 (pA (u4 (iL (cV 5)) (gT (qD (gN 7) (qD (gN 8) vG)) 2) (pA (sIf (cT (c2 (dEq false) (cV 8) (cS "alone"))) (qb (vT 6 (qd (aCons (cV 7) (aCons (cC D.non) (a1 (cC D.non))))))) pQ)
 (pA (sIf (cT (c2 (dEq false) (cV 8) (cS "one"))) (qT 6 (qS (cFz 6) (cL (pH 1 [7] (iL (cV 3)) (gN 0) qg (qd (aCons (cV 1) (aCons (cV 0) (a1 (cC D.non))))))))) pQ)
 (pA (sIf (cT (c2 (dEq false) (cV 8) (cS "two"))) (u4 (iL (cV 3)) (gN 9) (qT 6 (qS (cFz 6) (cL (pH 1 [7,9] (iL (cV 3)) (gN 0) qg (qd (aCons (cV 1) (aCons (cV 2) (a1 (cV 0)))))))))) pQ)
 (sIf (cT (c2 (dEq false) (cV 8) (cS "way"))) (qT 6 (qS (cFz 6) (cL (pH 1 [7] (iL (cV 4)) (gN 0) qg (qd (aCons (cV 1) (aCons (cV 0) (a1 (cC D.non))))))))) pQ)))))
 (qQ (Ds 6)))))))))
def xF:=fnN 3 10 zy
def IV:FS:=(pA (p6 1 (cMutT tH (a1 (cC (.int 3))) (pN (a1 (pC rN (aCons (cV 0) (a1 (cC (.int 0)))))))))
 (pA (Dr (cV 1) (gTL (qD (gN 2) (qD (gN 3) (qD (gN 4) (qD (gN 5) (qD (gN 6) (qD (gN 7) vG)))))) 6))
 (pA (p6 8 (pY 14 (λds=>tW (ds++[])) (aCons (cV 2) (aCons (cV 3) (aCons (cV 4) (aCons (cV 5) (aCons (cV 6) (a1 (cV 7)))))))))
 (pA (p6 9 (cL (qh xF (aCons (cV 2) (aCons (cV 5) (a1 (cV 6)))))))
 (pA (qT 10 (qh vA (a1 (cV 8))))
 (pA (sIf (uo (tL (rO (cT (c1 (qC (qU "list")) (cV 10)))) (tL (cT (c2 (dEq true) (cV 10) (cV 9))) (cT (c2 (dEq true) (cL (pH 1 [] (iL (cV 10)) (gN 0) (rO (cT (c1 (qC (qU "tuple")) (cV 0)))) (cC (.int 1)))) (cL (pN qe))))))) (pU (cC (.bl false))) pQ)
 (pA (qb (Oh 10))
 (pU (c2 (dEq false) (cL (qh vA (a1 (cV 8)))) (cV 9))))))))))
def PJ:=fnD 1 11 IV
variable{b:Int}{s2:Sl}
theorem CN{q r n:Int}(h0:0<b)(h1:b<1073741824):∃d es' ρ,(pA (sIf (uo (cT (c2 Du (c2 dIx (cV 0) (cC (.int 0))) (cC (.int 0))))) (pA (p6 3 (vb (c2 ua (c2 dIx (cV 0) (cC (.int 0))) (cV 1))))
 (pA (vU 0 0 (vb (c2 yY (c2 dIx (cV 0) (cC (.int 0))) (cV 1))))
 (pU (cV 3)))) pQ)
 (pA (vU 0 2 (vb (c2 qO (c2 dIx (cV 0) (cC (.int 2))) (cC (.int 1)))))
 (pA (p6 4 (vb (c2 ua (c2 sZ (c2 qO (c2 qO (c2 dIx (cV 0) (cC (.int 1))) (c2 sZ (cC (.int 7919)) (c2 dIx (cV 0) (cC (.int 2))))) (cC (.int 1))) (cC (.int 48271))) (cC (.int 2147483647)))))
 (pA (p6 4 (c2 ua (c2 sZ (cV 4) (c2 qO (c2 yY (cV 4) (cC (.int 1009))) (cC (.int 69621)))) (cC (.int 2147483647))))
 (pU (c2 ua (c2 ua (c2 sZ (cV 4) (c2 qO (c2 yY (cV 4) (cC (.int 2003))) (cC (.int 40692)))) (cC (.int 2147483399))) (cV 1)))))))
  [.pm [.int q,.int r,.int n],.im (.int b),s2,.un,.un]=some (.rt (.int d) ρ)/\zM ρ=some es'/\0<=d/\d<b/\qp es':=by
 have hc:uo (cT (c2 Du (c2 dIx (cV 0) (cC (.int 0))) (cC (.int 0)))) [.pm [.int q,.int r,.int n],.im (.int b),s2,.un,.un]=some (decide (0<q),[.pm [.int q,.int r,.int n],.im (.int b),s2,.un,.un]):=rfl;by_cases hq:0<q
 ·rw[aR hq]at hc;refine⟨q % b,[.int (q / b),.int r,.int n],[.pm [.int (q / b),.int r,.int n],.im (.int b),s2,.im (.int (q % b)),.un],?_,rfl,hE _ (by omega),gW _ h0,.inr ⟨_,_,_,rfl⟩⟩;rw[p9 (d:=.int (q % b)) (ρ':=[.pm [.int (q / b),.int r,.int n],.im (.int b),s2,.im (.int (q % b)),.un])];rw[pR hc,px (pO (Cg (pT rfl rfl (yK h0)) rfl)),px (FW (k:=0) (Cg (pT rfl rfl (div_pos h0 h1)) rfl) rfl rfl)];rfl
 ·rw[aN hq]at hc;rw[px (show _=some (Out.nx [.pm [.int q,.int r,.int n],.im (.int b),s2,.un,.un]) from by rw[qz hc];rfl)];rw[px (show _=some (Out.nx [.pm [.int q,.int r,.int (n+1)],.im (.int b),s2,.un,.un]) from rfl)];have h7:w9 7919=true:=by decide
  have h4:w9 48271=true:=by decide
  rw[px (pO (Cg (d:=.int ((r+7919 * (n+1)+1) * 48271 % 2147483647)) (pT (pT (pT (pT rfl (pT rfl rfl (uT (.inl h7))) rfl) rfl rfl) rfl (uT (.inr h4))) rfl (yK (by decide))) rfl))];generalize hg:(r+7919 * (n+1)+1) * 48271 % 2147483647=g;have g0:0<=g/\g<2147483647:=by rw[<-hg];exact⟨hE _ (by decide),gW _ (by decide)⟩
  rw[px (pO (d:=.int (g * (g / 1009+69621) % 2147483647)) (pT (pT rfl (pT (pT rfl rfl (div_pos (by decide) (by decide))) rfl rfl) (uT (.inl (FX g0.1 g0.2)))) rfl (yK (by decide))))];generalize hh:g * (g / 1009+69621) % 2147483647=m;have m0:0<=m/\m<2147483647:=by rw[<-hh];exact⟨hE _ (by decide),gW _ (by decide)⟩
  rw[qa (d:=.int (m * (m / 2003+40692) % 2147483399 % b)) (pT (pT (pT rfl (pT (pT rfl rfl (div_pos (by decide) (by decide))) rfl rfl) (uT (.inl (FX m0.1 m0.2)))) rfl (yK (by decide))) rfl (yK h0))];exact⟨_,[.int q,.int r,.int (n+1)],_,rfl,rfl,hE _ (by omega),gW _ h0,.inr ⟨_,_,_,rfl⟩⟩
variable{es:List L4.D}
theorem Gi(h:qp es)(h0:0<b)(h1:b<1073741824):∃d es',pq es [.int b]=some (.int d,es')/\0<=d/\d<b/\qp es':=by
 rcases h with ⟨c,rfl⟩|⟨q,r,n,rfl⟩
 ·obtain⟨d,es',ρ,e,p,q1,q2,q3⟩:=CN (q:=c * (if decide ((10:Int) ^ (18:Int).toNat<=c)=true then 1 else 0)) (r:=c % 2147483647) (n:=0) (s2:=.im (.int c)) h0 h1;refine⟨d,es',vX rfl ?_ p,q1,q2,q3⟩;unfold uQ;rw[px (ρ':=[.pm [.int (c * (if decide ((10:Int) ^ (18:Int).toNat<=c)=true then 1 else 0)),.int (c % 2147483647),.int 0],.im (.int b),.im (.int c),.un,.un])]
  ·exact e
  ·show sIf _ _ _ [.pm [.int c],.im (.int b),.un,.un,.un]=_;rw[pR (ρ':=[.pm [.int c],.im (.int b),.un,.un,.un]) rfl,px (show _=some (Out.nx [.pm [.int c],.im (.int b),.im (.int c),.un,.un]) from rfl)];rw[px (FW (k:=0) (ds:=[.int c]) (pT rfl rfl (uT (.inr (by split<;>decide)))) rfl rfl)];rfl
 ·obtain⟨d,es',ρ,e,p,q1,q2,q3⟩:=CN (q:=q) (r:=r) (n:=n) (s2:=.un) h0 h1;refine⟨d,es',vX rfl ?_ p,q1,q2,q3⟩;unfold uQ;rw[px (ρ':=[.pm [.int q,.int r,.int n],.im (.int b),.un,.un,.un])]
  ·exact e
  ·show sIf _ _ _ [.pm [.int q,.int r,.int n],.im (.int b),.un,.un,.un]=_;rw[qz (ρ':=[.pm [.int q,.int r,.int n],.im (.int b),.un,.un,.un]) rfl];rfl
variable{i:Nat}
theorem dgx{a:FE}(st:List L4.D->List Sl)(hp:∀es,q9 (st es) i=some es)(hq:∀es es',putAt (st es) i es'=st es')(ha:a (st es)=some (.int b,st es))(hs:qp es)(h0:0<b)(h1:b<1073741824):∃d es',p8 pq i (a1 a) (st es)=some (.int d,st es')/\0<=d/\d<b/\qp es':=by obtain⟨d,es',e,q1,q2,q3⟩:=Gi hs h0 h1;exact⟨d,es',by rw[<-hq es es'];exact sR (hp es) (pB ha rfl) (hp es) e,q1,q2,q3⟩
variable{e:FE}
theorem pk{L:List L4.D}{a:FE}(st:List L4.D->List Sl)(hp:∀es,q9 (st es) i=some es)(hq:∀es es',putAt (st es) i es'=st es')(he:e (st es)=some (.lst L,st es))(ha:a (st es)=some (.int L.length,st es))(hs:qp es)(h0:L≠[])(h1:L.length<=1000):∃d∈L,∃es',c2 dIx e (p8 pq i (a1 a)) (st es)=some (d,st es')/\qp es':=by
 have hp0:0<L.length:=kz.mpr h0;obtain⟨d,es',e1,q1,q2,q3⟩:=dgx st hp hq ha hs (by omega) (by omega);obtain⟨m,rfl⟩:=bL q1;have hm:m<L.length:=by omega
 exact⟨L[m],dX hm,es',pT he e1 (zG (aY hm)),q3⟩
variable{ρ ρ1:List Sl}
theorem Tp{L:List L4.D}(h:e ρ=some (.lst L,ρ1)):c1 qR e ρ=some (.int L.length,ρ1):=qv h rfl
section
variable{k:Nat}{cap:List Nat}{g:FG}{ft:FT}{fe e:FE}{s:FA}{ρ ρ1 ρ2:List Sl}{α:Type}
theorem rX{m:L4.D}(h:e ρ=some (.bl true,ρ1)):qb (pC pJ (aCons e (aCons (cC m) qe))) ρ=some (.nx ρ1):=qF (pz (pB h (pB rfl rfl)) rfl)
theorem rQ(dd h:α->L4.D)(l:List α)(hs:s ρ=some (l.map dd,ρ1))(hl:l.length<=1000)(st:∀a∈l,∃ρ2 ρ3,g (dd a) (zN k cap ρ1)=some ρ2/\fe ρ2=some (h a,ρ3)/\sH cap (ρ3.drop k) ρ1=some ρ1):
  pH k cap s g qg fe ρ=some (l.map h,ρ1):=(zT hs (by rw[af];exact hl)).trans (OP dd h l st)
theorem uf(dd h:α->L4.D)(p:α->Bool)(l:List α)(hs:s ρ=some (l.map dd,ρ1))(hl:l.length<=1000)
  (st:∀a∈l,∃ρ2 ρ3,g (dd a) (zN k cap ρ1)=some ρ2/\ft ρ2=some (p a,ρ3)/\(p a=true->∃ρ4,fe ρ3=some (h a,ρ4)/\sH cap (ρ4.drop k) ρ1=some ρ1)/\(p a=false->sH cap (ρ3.drop k) ρ1=some ρ1)):
  pH k cap s g ft fe ρ=some ((l.filter p).map h,ρ1):=(zT hs (by rw[af];exact hl)).trans (Cq dd p h l st)
theorem ug(dd:α->L4.D)(l:List α)(hs:s ρ=some (l.map dd,ρ1))(hl:l.length<=1000)(st:∀a∈l,∃ρ2 ρ3,g (dd a) (zN k cap ρ1)=some ρ2/\fe ρ2=some (.bl true,ρ3)/\sH cap (ρ3.drop k) ρ1=some ρ1):
  c1 uy (cL (pH k cap s g qg fe)) ρ=some (.bl true,ρ1):=
 qv (qu (rQ dd (λ_=>.bl true) l hs hl st)) ((OR l λ_=>true).trans (by rw[aE.mpr λ_ _=>rfl]))
theorem Mx(dd:α->L4.D)(l:List α)(hs:s ρ=some (l.map dd,ρ1))(hl:l.length<=1000)(st:∀a∈l,∃ρ2 ρ3,g (dd a) (zN k cap ρ1)=some ρ2/\fe ρ2=some (.bl false,ρ3)/\sH cap (ρ3.drop k) ρ1=some ρ1):
  c1 Ci (cL (pH k cap s g qg fe)) ρ=some (.bl false,ρ1):=
 qv (qu (rQ dd (λ_=>.bl false) l hs hl st)) ((OS l λ_=>false).trans (by rw[kN.mpr λ_ _=>aT]))
end
inductive Kd where
 |room|you|plain|fixed|box|lamp
deriving DecidableEq
def Kd.s:Kd->Str
 |.room=>"room" |.you=>"you" |.plain=>"plain" |.fixed=>"fixed" |.box=>"box" |.lamp=>"lamp"
def Kd.pl:Kd->Bool
 |.room=>false|.you=>false|_=>true
def Kd.hd:Kd->Bool
 |.room=>true|.you=>true|.box=>true|_=>false
def Kd.mk:Kd->Bool
 |.box=>true|.lamp=>true|_=>false
structure Th where
 n:Str
 w:List Str
 k:Kd
 s:Option Str
def oS:Option Str->L4.D
 |none=>.non
 |some x=>.str x
def thD(t:Th):L4.D:=.obj 0 ["name", "words", "kind", "start"] [.str t.n,.tup (t.w.map D.str),.str t.k.s,oS t.s]
theorem vB(t:Th):pG pI "name" (thD t)=some (.str t.n):=rfl
theorem E2(t:Th):pG r9 "words" (thD t)=some (.tup (t.w.map D.str)):=rfl
theorem zz(t:Th):pG qy "kind" (thD t)=some (.str t.k.s):=rfl
theorem E3(t:Th):pG rh "start" (thD t)=some (oS t.s):=rfl
theorem CO(a b:Kd):dEq false (.str a.s) (.str b.s)=some (.bl (decide (a=b))):=by cases a<;>cases b<;>kernel_rfl
theorem IW(t:Th):ud [thD t]=some (.bl t.k.hd):=by obtain⟨n,w,k,s⟩:=t;cases k<;>kernel_rfl
theorem IY(t:Th):wK [thD t]=some (.bl t.k.mk):=by obtain⟨n,w,k,s⟩:=t;cases k<;>kernel_rfl
theorem Gj(t:Th):sW [thD t]=some (.bl t.k.pl):=by obtain⟨n,w,k,s⟩:=t;cases k<;>kernel_rfl
theorem O4(t:Th):ql [.str t.k.s,xi]=some (.bl true):=by obtain⟨n,w,k,s⟩:=t;cases k<;>kernel_rfl
abbrev TD(T:List Th):L4.D:=.lst (T.map thD)
theorem count_eq(T:List Th)(hl:T.length<=1000)(k:Kd):xl [TD T,.str k.s]=some (.int (T.filter λt=>decide (t.k=k)).length):=by refine qk (ρ:=[.im (TD T),.im (.str k.s)]) rfl ?_;refine qa (qv (qu (uf thD thD (λt=>decide (t.k=k)) T (ρ1:=[.im (TD T),.im (.str k.s)]) rfl hl λt _=>⟨[.im (thD t),.im (.str k.s)],[.im (thD t),.im (.str k.s)],rfl,rb (pT (qv rfl (zz t)) rfl (CO t.k k)),λ_=>⟨_,rfl,rfl⟩,λ_=>rfl⟩)) ?_);show some (D.int _)=_;rw[af]
theorem wx(T:List Th)(hl:T.length<=1000):sE [TD T]=some ((T.filter λt=>t.k.pl).map thD):=by refine vc (ρ:=[.im (TD T)]) rfl ?_;exact se (uf thD thD (λt=>t.k.pl) T (ρ1:=[.im (TD T)]) rfl hl λt _=>⟨[.im (thD t)],[.im (thD t)],rfl,rb (rE (xs:=[.str t.n,.tup (t.w.map D.str),.str t.k.s,oS t.s]) (ys:=[]) rfl rfl rfl rfl (Gj t)),λ_=>⟨_,rfl,rfl⟩,λ_=>rfl⟩)
variable{y:Int}
theorem CP{a b c:FE}{x z:Int}(h1:a ρ=some (.int x,ρ))(h2:b ρ=some (.int y,ρ))(h3:c ρ=some (.int z,ρ))(hx:x<=y)(hy:y<=z):sQ va va a b c ρ=some (.bl true,ρ):=by
 unfold sQ;rw[h1];simp only[h2];have e1:va (.int x) (.int y)=some (.bl true):=by show some (D.bl (decide (x<=y)))=_;rw[aR hx]
 have e2:va (.int y) (.int z)=some (.bl true):=by show some (D.bl (decide (y<=z)))=_;rw[aR hy]
 simp only[e1,h3,e2]
theorem IZ{a b:FE}{x:Int}(h1:a ρ=some (.int x,ρ))(h2:b ρ=some (.int y,ρ))(hx:x<=y):c2 va a b ρ=some (.bl true,ρ):=pT h1 h2 (by
 show some (D.bl (decide (x<=y)))=_;rw[aR hx])
theorem BB(T:List Th)(hl:T.length<=1000)(h1:1<=(T.filter λt=>decide (t.k=.room)).length)(h5:(T.filter λt=>decide (t.k=.room)).length<=5)(hy:(T.filter λt=>decide (t.k=.you)).length=1)(h7:(T.filter λt=>t.k.pl).length<=7):
  vt [TD T]=some .non:=by
 let ρ:List Sl:=[.im (TD T),.im (.bl true)];refine xg (ρ:=ρ) rfl ?_;unfold vq;rw[px (show _=some (Out.nx ρ) from(pO ((qj rfl).trans (ug thD T (ρ1:=[.im (TD T),.un]) rfl hl λt _=>⟨_,_,rfl,rfl,rfl⟩))).trans rfl)];rw[px (rX (ρ1:=ρ) rfl)];rw[px (rX (ρ1:=ρ) (ug thD T rfl hl λt _=>⟨[.im (thD t)],[.im (thD t)],rfl,pz (pB (qv rfl (zz t)) (pB rfl rfl)) (O4 t),rfl⟩))];rw[px (rX (ρ1:=ρ) (CP (x:=1) (y:=(T.filter λt=>decide (t.k=.room)).length) (z:=5) rfl (pz (ds:=[TD T,.str Kd.room.s]) rfl (count_eq T hl .room)) rfl (by omega) (by omega)))];rw[px (rX (ρ1:=ρ) (pT (ρ1:=ρ) (x:=.int (T.filter λt=>decide (t.k=.you)).length) (y:=.int 1) (pz (ds:=[TD T,.str Kd.you.s]) rfl (count_eq T hl .you)) rfl (by rw[hy];rfl)))];refine rX (ρ1:=ρ) (IZ (x:=(T.filter λt=>t.k.pl).length) (y:=7) (qv (qu (pz rfl (wx T hl))) ?_) rfl (by omega));show some (D.int _)=_;rw[af]
structure Mk where
 n:Str
 st:Int
 mo:Int
def mkD(m:Mk):L4.D:=.obj 1 ["name", "start", "most"] [.str m.n,.int m.st,.int m.mo]
def Mk.ok(m:Mk):Prop:=1<=m.mo/\m.mo<=3/\0<=m.st/\m.st<=m.mo
abbrev MD(M:List Mk):L4.D:=.lst (M.map mkD)
theorem E4(m:Mk):pG pI "name" (mkD m)=some (.str m.n):=rfl
theorem Hw(m:Mk)(h:m.ok):AG [mkD m]=some (.bl true):=by obtain⟨h1,h2,h3,h4⟩:=h;refine qk (ρ:=[.im (mkD m)]) rfl ?_;unfold AF;rw[px (show _=some (Out.nx [.im (mkD m)]) from rfl)];exact qa ((qj (CP (x:=1) (y:=m.mo) (z:=3) rfl rfl rfl h1 h2)).trans (CP (x:=0) (y:=m.st) (z:=m.mo) rfl rfl rfl h3 h4))
theorem CQ(M:List Mk)(hl:M.length<=4)(h:∀m∈M,m.ok):v7 [MD M]=some .non:=by
 let ρ:List Sl:=[.im (MD M),.im (.bl true)];refine xg (ρ:=ρ) rfl ?_;unfold v5;have e0:qw [MD M,uM]=some (.bl true):=by refine qk (ρ:=[.im (MD M),.im (.int 4)]) rfl ?_;refine qa ((qj rfl).trans (IZ (x:=M.length) (y:=4) ?_ rfl (by omega)));refine qv rfl ?_;show some (D.int _)=_;rw[af]
 rw[px (show _=some (Out.nx ρ) from(pO ((qj (pz (ds:=[MD M,uM]) rfl e0)).trans (ug mkD M (ρ1:=[.im (MD M),.un]) rfl (by omega) λm hm=>⟨[.im (mkD m)],[.im (mkD m)],rfl,pz rfl (Hw m (h m hm)),rfl⟩))).trans rfl)];exact rX (ρ1:=ρ) rfl
def rmL:List Str:=["hall", "x", "cellar", "loft", "porch"]
def plL:List (Str×List Str):=[("chest", ["old", "chest"]),("lamp", ["lamp", "red"]),("stone", ["red", "stone"]),("key", ["key"]),("itch", ["old", "red", "rag"]),("heretic", ["stone", "man"]),("others", ["book", "of", "old"])]
def mkL:List Str:=["gate", "luck", "tide", "i"]
def nmL:List Str:=rmL++("me" : Str)::plL.map bU++mkL
def Nm(x:Str):Prop:=x∈nmL
def isT:Option L4.D->Bool
 |some (.bl b)=>b
 |_=>false
variable{o:Option L4.D}
theorem xG(h:isT o=true):o=some (.bl true):=by
 unfold isT at h;split at h
 ·rw[h]
 ·cases h
def isF:Option L4.D->Bool
 |some (.bl b)=>!b
 |_=>false
theorem Hy(h:isF o=true):o=some (.bl false):=by
 unfold isF at h;split at h
 ·rw[eT]at h;rw[h]
 ·cases h
variable{x:Str}
theorem Hz(h:Nm x):sA [.str x]=some (.bl true):=xG (aE.mp (show (nmL.all λx=>isT (sA [.str x]))=true by kernel_rfl) x h)
variable{l:List Str}
theorem zA(h:l.Nodup)(hl:l.length<=1000):rU [.lst (l.map D.str)]=some (.bl true):=by
 refine qk (ρ:=[.im (.lst (l.map D.str))]) rfl ?_;refine qa (pT (x:=.int l.length) (y:=.int l.length) (qv rfl (OH (F7 h hl))) (qv rfl ?_) ?_)
 ·show some (D.int _)=_;rw[af]
 ·rw[uL];simp
theorem CS(T:List Th)(M:List Mk)(hT:T.length<=400)(hM:M.length<=400)(hn:∀x∈T.map Th.n++M.map Mk.n,Nm x)(nd:(T.map Th.n++M.map Mk.n).Nodup):wa [TD T,MD M]=some .non:=by
 have hl:(T.map Th.n++M.map Mk.n).length<=1000:=by rw[au,af,af];omega
 let ρ0:List Sl:=[.im (TD T),.im (MD M),.un];let ρ:List Sl:=[.im (TD T),.im (MD M),.im (.lst ((T.map Th.n++M.map Mk.n).map D.str))];refine xg (ρ:=ρ) rfl ?_;unfold v8;have e1:pH 1 [] (iL (cV 0)) (gN 0) qg (c1 (pG pI "name") (cV 0)) ρ0=some (T.map λt=>D.str t.n,ρ0):=rQ thD (λt=>D.str t.n) T rfl (by omega) λt _=>⟨_,_,rfl,qv rfl (vB t),rfl⟩;have e2:pH 1 [] (iL (cV 1)) (gN 0) qg (c1 (pG pI "name") (cV 0)) ρ0=some (M.map λt=>D.str t.n,ρ0):=rQ mkD (λt=>D.str t.n) M rfl (by omega) λt _=>⟨_,_,rfl,qv rfl (E4 t),rfl⟩;have e3:=pO (i:=2) (qu (qP (qu e1) (qu e2) (by rw[af,af];omega)));refine(px (ρ':=ρ) (e3.trans (by
  have:(T.map λt=>D.str t.n)++(M.map λt=>D.str t.n)=(T.map Th.n++M.map Mk.n).map D.str:=by rw[aS,aJ,aJ];rfl
  rw[this];rfl))).trans ?_
 rw[px (rX (ρ1:=ρ) (ug D.str (T.map Th.n++M.map Mk.n) rfl hl λx hx=>⟨_,_,rfl,pz rfl (Hz (hn x hx)),rfl⟩))];exact rX (ρ1:=ρ) (pz rfl (zA nd hl))
def rmN(T:List Th):List Str:=(T.filter λt=>decide (t.k=.room)).map Th.n
def hdN(T:List Th):List Str:=(T.filter λt=>t.k.hd).map Th.n
theorem Gk(T:List Th)(hl:T.length<=1000)(hi:cV i ρ=some (TD T,ρ)):pH 1 [] (iL (cV i)) (gN 0) (cT (c2 (dEq false) (c1 (pG qy "kind") (cV 0)) (cC (.str "room")))) (c1 (pG pI "name") (cV 0)) ρ=some ((rmN T).map D.str,ρ):=by
 have hs:iL (cV i) ρ=some (T.map thD,ρ):=by unfold iL;rw[hi]
 have:=uf (k:=1) (cap:=[]) (g:=gN 0) (ft:=cT (c2 (dEq false) (c1 (pG qy "kind") (cV 0)) (cC (.str "room")))) (fe:=c1 (pG pI "name") (cV 0)) thD (λt=>D.str t.n) (λt=>decide (t.k=.room)) T hs hl λt _=>⟨[.im (thD t)],[.im (thD t)],rfl,rb (pT (qv rfl (zz t)) rfl (CO t.k .room)),λ_=>⟨_,qv rfl (vB t),rfl⟩,λ_=>rfl⟩
 rw[this];unfold rmN;rw[aJ];rfl
theorem HA(T:List Th)(hl:T.length<=1000)(hi:cV i ρ=some (TD T,ρ)):pH 1 [] (iL (cV i)) (gN 0) (cT (qB qM "can_hold" (cV 0) qe)) (c1 (pG pI "name") (cV 0)) ρ=some ((hdN T).map D.str,ρ):=by
 have hs:iL (cV i) ρ=some (T.map thD,ρ):=by unfold iL;rw[hi]
 have:=uf (k:=1) (cap:=[]) (g:=gN 0) (ft:=cT (qB qM "can_hold" (cV 0) qe)) (fe:=c1 (pG pI "name") (cV 0)) thD (λt=>D.str t.n) (λt=>t.k.hd) T hs hl λt _=>⟨[.im (thD t)],[.im (thD t)],rfl,rb (rE (xs:=[.str t.n,.tup (t.w.map D.str),.str t.k.s,oS t.s]) (ys:=[]) rfl rfl rfl rfl (IW t)),λ_=>⟨_,qv rfl (vB t),rfl⟩,λ_=>rfl⟩
 rw[this];unfold hdN;rw[aJ];rfl
theorem uV(h:x∈l):ql [.str x,.lst (l.map D.str)]=some (.bl true):=by refine qk (ρ:=[.im (.str x),.im (.lst (l.map D.str))]) rfl ?_;refine qa ((qj rfl).trans (pT rfl rfl ?_));rw[ve];simp[h]
theorem DB(dk rm:List Str)(hl:dk.length<=1000)(nd:dk.Nodup)(h:∀x∈dk,x∈rm):xp [.lst (dk.map D.str),.lst (rm.map D.str)]=some .non:=by let ρ0:List Sl:=[.im (.lst (dk.map D.str)),.im (.lst (rm.map D.str)),.un];let ρ:List Sl:=[.im (.lst (dk.map D.str)),.im (.lst (rm.map D.str)),.im (.bl true)];refine xg (ρ:=ρ) rfl ?_;unfold xn;rw[px (show _=some (Out.nx ρ) from(pO ((qj (ρ1:=ρ0) rfl).trans ((qj (ug D.str dk (ρ1:=ρ0) rfl hl λx hx=>⟨[.im (.str x),.im (.lst (rm.map D.str))],[.im (.str x),.im (.lst (rm.map D.str))],rfl,pz rfl (uV (h x hx)),rfl⟩)).trans (pz (ρ1:=ρ0) rfl (zA nd hl))))).trans rfl)];exact rX (ρ1:=ρ) rfl
def Ak(T:List Th)(t:Th):Prop:=match t.k,t.s with
 |.room,none=>True
 |.room,some _=>False
 |_,none=>False
 |.you,some x=>x∈rmN T
 |_,some x=>x∈hdN T
theorem Gm(T:List Th)(hl:T.length<=1000)(t:Th)(h:Ak T t):zq [TD T,thD t]=some (.bl true):=by
 refine qk (ρ:=[.im (TD T),.im (thD t)]) rfl ?_;unfold zp;obtain⟨n,w,k,s⟩:=t;have els:∀k:Kd,k≠.room->k≠.you->∀x,x∈hdN T->(pA (sIf (cT (c2 (dEq false) (c1 (pG qy "kind") (cV 1)) (cC (.str "room")))) (pU (c2 zQ (c1 (pG rh "start") (cV 1)) (cC D.non))) pQ)
   (pA (sIf (cT (c2 (dEq false) (c1 (pG qy "kind") (cV 1)) (cC (.str "you")))) (pU (pC ql (aCons (c1 (pG rh "start") (cV 1)) (aCons (cL (pH 1 [] (iL (cV 0)) (gN 0) (cT (c2 (dEq false) (c1 (pG qy "kind") (cV 0)) (cC (.str "room")))) (c1 (pG pI "name") (cV 0)))) qe)))) pQ)
   (pU (pC ql (aCons (c1 (pG rh "start") (cV 1)) (aCons (cL (pH 1 [] (iL (cV 0)) (gN 0) (cT (qB qM "can_hold" (cV 0) qe)) (c1 (pG pI "name") (cV 0)))) qe)))))) [.im (TD T),.im (thD ⟨n,w,k,some x⟩)]=some (.rt (.bl true) [.im (TD T),.im (thD ⟨n,w,k,some x⟩)]):=λk h1 h2 x hx=>by
  let ρ:List Sl:=[.im (TD T),.im (thD ⟨n,w,k,some x⟩)];rw[px (show _=some (Out.nx ρ) from(qz (ρ':=ρ) (rb (pT (ρ1:=ρ) (ρ2:=ρ) (qv rfl (zz _)) rfl ((CO k .room).trans (by rw[aN h1]))))).trans rfl)];rw[px (show _=some (Out.nx ρ) from(qz (ρ':=ρ) (rb (pT (ρ1:=ρ) (ρ2:=ρ) (qv rfl (zz _)) rfl ((CO k .you).trans (by rw[aN h2]))))).trans rfl)];exact qa (pz (pB (qv rfl (E3 _)) (pB (qu (HA T hl rfl)) rfl)) (uV hx))
 cases k with
 |room=>
  cases s with
  |none=>rfl
  |some x=>exact h.elim
 |you=>
  cases s with
  |none=>exact h.elim
  |some x=>let ρ:List Sl:=[.im (TD T),.im (thD ⟨n,w,.you,some x⟩)];rw[px (show _=some (Out.nx ρ) from rfl)];refine p9 ((pR (ρ':=ρ) rfl).trans ?_);exact qa (pz (pB (qv rfl (E3 _)) (pB (qu (Gk T hl rfl)) rfl)) (uV h))
 |plain=>cases s with
  |none=>exact h.elim
  |some x=>exact els .plain (by decide) (by decide) x h
 |fixed=>cases s with
  |none=>exact h.elim
  |some x=>exact els .fixed (by decide) (by decide) x h
 |box=>cases s with
  |none=>exact h.elim
  |some x=>exact els .box (by decide) (by decide) x h
 |lamp=>cases s with
  |none=>exact h.elim
  |some x=>exact els .lamp (by decide) (by decide) x h
def kS(x:Str):Key:=Sum.inr x
variable{ds:List L4.D}{d:L4.D}
theorem Gp{fk fv:FE}{ks:List Key}(h1:fv ρ=some (d,ρ))(h2:ρ[i]?=some (.dk ks ds))(h3:fk ρ=some (.str x,ρ))(hn:kS x∉ks)(hl:ks.length<1000)(he:ds.length=ks.length):
  uz i fk fv ρ=some (.nx (ρ.set i (.dk (ks++[kS x]) (ds++[d])))):=by
 have hk:BA ks (kS x)=false:=by unfold BA;rw[iW];intro z;obtain⟨y,hy,ey⟩:=dA.mp z;exact hn (by rw[<-bx ey];exact hy)
 unfold uz;rw[h1];simp only[h2,h3];rw[show yV (.str x)=some (kS x) from rfl];simp only;rw[ah hl,ah he,hk];rfl
section
variable{α:Type}{g:FG}{i:Nat}{fk fv:FE}
theorem yS(dd:α->L4.D)(kf:α->Str)(vf:α->L4.D)(st:List Key->List L4.D->Sl->List Sl)
  (hs:∀(a:α) (ks:List Key) (ds:List L4.D) (s:Sl),∃ρ1,g (dd a) (st ks ds s)=some ρ1/\fv ρ1=some (vf a,ρ1)/\ρ1[i]?=some (.dk ks ds)/\fk ρ1=some (.str (kf a),ρ1)/\∀ks' ds',∃s',ρ1.set i (.dk ks' ds')=st ks' ds' s'):
  ∀(l:List α) (ks:List Key) (ds:List L4.D) (s:Sl),(ks++l.map λa=>kS (kf a)).Nodup->ks.length+l.length<=1000->ds.length=ks.length->
   ∃s',forL g (uz i fk fv) (l.map dd) (st ks ds s)=some (.nx (st (ks++l.map λa=>kS (kf a)) (ds++l.map vf) s'))
 |[],ks,ds,s,_,_,_=>⟨s,by rw[eA,eA,eA,bA,bA];rfl⟩
 |a::l,ks,ds,s,nd,hl,he=>by
  obtain⟨ρ1,h1,h2,h3,h4,h5⟩:=hs a ks ds s;obtain⟨s1,h6⟩:=h5 (ks++[kS (kf a)]) (ds++[vf a]);rw[aB]at hl;have nd':((ks++[kS (kf a)])++l.map λa=>kS (kf a)).Nodup:=by rw[bq];exact nd
  have hn:kS (kf a)∉ks:=λz=>by rw[bJ]at nd;exact nd.2.2 _ z _ (by rw[aG];exact aP) rfl
  obtain⟨s',h7⟩:=yS dd kf vf st hs l (ks++[kS (kf a)]) (ds++[vf a]) s1 nd' (by rw[au,bP];omega) (by rw[au,au,he,bP,bP]);refine⟨s',?_⟩;rw[aG];unfold forL;rw[h1];simp only[Gp h2 h3 h4 hn (by omega) he,h6];rw[h7,aG,aG,bq,bq];rfl
end
def nK(T:List Th):List Key:=T.map λt=>kS t.n
variable{T:List Th}
theorem My(h:(T.map Th.n).Nodup):(nK T).Nodup:=by have:=yM h;rw[aJ]at this;exact this
theorem BN(h:(T.map Th.n).Nodup)(vf:Th->L4.D){t:Th}(ht:t∈T):vH (nK T) (T.map vf) (kS t.n)=some (vf t):=by refine zY (My h) ?_;unfold nK;rw[jq];exact bM (f:=λt=>(kS t.n,vf t)) ht
def E5(T:List Th)(r:Str->Nat):Prop:=∀t∈T,r t.n<T.length/\∀p,t.s=some p->r p<r t.n/\∃u∈T,u.n=p
def stD(T:List Th):L4.D:=.dic (nK T) (T.map λt=>oS t.s)
theorem Mz(T:List Th)(hl:T.length<=1000)(nd:(T.map Th.n).Nodup)(r:Str->Nat)(hr:E5 T r)(t:Th)(ht:t∈T):uC [stD T,.str t.n]=some (.bl true):=by
 have loop:∀(m:Nat) (l:List L4.D),l.length=m->∀(a:Option Str) (s:Sl),(∀x,a=some x->(∃u∈T,u.n=x)/\r x<m)->
   (∃ρ,forL (gN 3) (pA (sIf (cT (c2 zQ (cV 2) (cC D.non))) (pU (cC (.bl true))) pQ) (p6 2 (c2 y4 (cV 0) (cV 2)))) l [.im (stD T),.im (.str t.n),.im (oS a),s]=some (.rt (.bl true) ρ))\/
   (∃s',forL (gN 3) (pA (sIf (cT (c2 zQ (cV 2) (cC D.non))) (pU (cC (.bl true))) pQ) (p6 2 (c2 y4 (cV 0) (cV 2)))) l [.im (stD T),.im (.str t.n),.im (oS a),s]=some (.nx [.im (stD T),.im (.str t.n),.im .non,s'])):=by
  intro m
  induction m with
  |zero=>
   intro l h a s ha;cases l with
   |cons d l=>cases h
   |nil=>
    cases a with
    |none=>exact .inr ⟨s,rfl⟩
    |some x=>exact ao (ha x rfl).2 (Nat.not_lt_zero _)
  |succ m ih=>
   intro l h a s ha;cases l with
   |nil=>cases h
   |cons d l=>
    cases a with
    |none=>refine .inl ⟨[.im (stD T),.im (.str t.n),.im .non,.im d],?_⟩;unfold forL;rw[show gN 3 d [.im (stD T),.im (.str t.n),.im (oS none),s]=some [.im (stD T),.im (.str t.n),.im .non,.im d] from rfl];rfl
    |some x=>
     obtain⟨⟨u,hu,rfl⟩,hx⟩:=ha x rfl;have e:pA (sIf (cT (c2 zQ (cV 2) (cC D.non))) (pU (cC (.bl true))) pQ) (p6 2 (c2 y4 (cV 0) (cV 2))) [.im (stD T),.im (.str t.n),.im (.str u.n),.im d]=some (.nx [.im (stD T),.im (.str t.n),.im (oS u.s),.im d]):=by refine(px (ρ':=[.im (stD T),.im (.str t.n),.im (.str u.n),.im d]) rfl).trans ?_;exact(pO (pT rfl rfl (BN nd (λt=>oS t.s) hu))).trans rfl
     have key:=ih l (by simpa using h) u.s (.im d) λy hy=>by obtain⟨h1,h2⟩:=hr u hu;obtain⟨h3,h4⟩:=h2 y hy;exact⟨h4,by omega⟩
     unfold forL;rw[show gN 3 d [.im (stD T),.im (.str t.n),.im (oS (some u.n)),s]=some [.im (stD T),.im (.str t.n),.im (.str u.n),.im d] from rfl];simp only[e];exact key
 obtain⟨h1,h2⟩:=hr t ht;have l0:=loop T.length (yU 0 T.length) (by unfold yU;simp) t.s .un λx hx=>⟨(h2 x hx).2,by have:=(h2 x hx).1;omega⟩;have e0:p6 2 (c2 y4 (cV 0) (cV 1)) [.im (stD T),.im (.str t.n),.un,.un]=some (.nx [.im (stD T),.im (.str t.n),.im (oS t.s),.un]):=(pO (pT rfl rfl (BN nd (λt=>oS t.s) ht))).trans rfl;have e1:iR1 (c1 qR (cV 0)) [.im (stD T),.im (.str t.n),.im (oS t.s),.un]=some (yU 0 T.length,[.im (stD T),.im (.str t.n),.im (oS t.s),.un]):=by unfold iR1;rw[show c1 qR (cV 0) [.im (stD T),.im (.str t.n),.im (oS t.s),.un]=some (.int T.length,[.im (stD T),.im (.str t.n),.im (oS t.s),.un]) from qv rfl (by show some (D.int _)=_;unfold nK;rw[af])];simp only;rw[ah (by omega),eR]
 rcases l0 with ⟨ρ,q⟩|⟨s',q⟩
 ·refine qk (ρ:=ρ) rfl ?_;refine(px e0).trans (p9 ((sG e1).trans q))
 ·refine qk (ρ:=[.im (stD T),.im (.str t.n),.im .non,s']) rfl ?_;refine(px e0).trans ((px ((sG e1).trans q)).trans rfl)
theorem BC(T:List Th)(hl:T.length<=900)(nd:(T.map Th.n).Nodup)(r:Str->Nat)(hr:E5 T r)(hs:∀t∈T,Ak T t):vw [TD T]=some .non:=by
 obtain⟨s',e1⟩:=yS (g:=gN 2) (i:=1) (fk:=c1 (pG pI "name") (cV 2)) (fv:=c1 (pG rh "start") (cV 2)) thD Th.n (λt=>oS t.s) (λks ds s=>[.im (TD T),.dk ks ds,s])
  (λt ks ds s=>⟨[.im (TD T),.dk ks ds,.im (thD t)],rfl,qv rfl (E3 t),rfl,qv rfl (vB t),λks' ds'=>⟨_,rfl⟩⟩) T [] [] .un (by rw[bY];exact My nd) (by simp;omega) rfl
 refine xg (ρ:=[.im (TD T),.im (stD T),s']) rfl ?_;unfold vv;refine(px (rX (ρ1:=[.im (TD T),.un,.un]) (ug thD T rfl (by omega) λt ht=>⟨[.im (thD t),.im (TD T)],[.im (thD t),.im (TD T)],rfl,pz rfl (Gm T (by omega) t (hs t ht)),rfl⟩))).trans ?_;refine(px (ρ':=[.im (TD T),.dk [] [],.un]) rfl).trans ?_;refine(px ((sG rfl).trans e1)).trans ?_;have src:iD (cFz 1) [.im (TD T),.dk ([]++T.map λa=>kS a.n) ([]++T.map λt=>oS t.s),s']=some ((T.map λt=>D.str t.n),[.im (TD T),.im (stD T),s']):=by rw[bY,bY];unfold iD;rw[show cFz 1 [.im (TD T),.dk (T.map λa=>kS a.n) (T.map λt=>oS t.s),s']=some (stD T,[.im (TD T),.im (stD T),s']) from rfl];show (if (nK T).length=(T.map λt=>oS t.s).length then some ((nK T).map Rv,_)else none)=_;unfold nK;rw[ah (by rw[af,af]),aJ];rfl
 exact rX (ρ1:=[.im (TD T),.im (stD T),s']) (ug (λt:Th=>D.str t.n) T src (by omega) λt ht=>⟨[.im (.str t.n),.im (stD T)],[.im (.str t.n),.im (stD T)],rfl,pz rfl (Mz T (by omega) nd r hr t ht),rfl⟩)
def E6(l:List Th)(r:Th):Prop:=(r.k=.room/\r.s=none)\/(r.k=.you/\∃u∈l,r.s=some u.n/\u.k=.room)\/(r.k.pl=true/\∃u∈l,r.s=some u.n/\u.k.hd=true)
inductive Ord:List Th->Prop
 |nil:Ord []
 |snoc {l:List Th} {r:Th} (h:Ord l) (h':E6 l r):Ord (l++[r])
theorem E6.mono{l l':List Th}{r:Th}(h:E6 l r)(hs:∀u∈l,u∈l'):E6 l' r:=by
 rcases h with h|⟨h1,u,h2,h3⟩|⟨h1,u,h2,h3⟩
 ·exact .inl h
 ·exact .inr (.inl ⟨h1,u,hs u h2,h3⟩)
 ·exact .inr (.inr ⟨h1,u,hs u h2,h3⟩)
theorem Ord.all{l:List Th}(h:Ord l):∀r∈l,E6 l r:=by
 induction h with
 |nil=>exact λr hr=>(bX hr).elim
 |snoc h h' ih=>
  intro r hr;rcases aQ.mp hr with hr|hr
  ·exact(ih r hr).mono λu hu=>bg _ hu
  ·rw[aX]at hr;subst hr;exact h'.mono λu hu=>bg _ hu
theorem E6.start{l:List Th}{r:Th}(h:E6 l r){p:Str}(hp:r.s=some p):∃u∈l,u.n=p:=by
 rcases h with ⟨_,h⟩|⟨_,u,h2,h3,_⟩|⟨_,u,h2,h3,_⟩
 ·rw[h]at hp;cases hp
 ·rw[h3]at hp;cases hp;exact⟨u,h2,rfl⟩
 ·rw[h3]at hp;cases hp;exact⟨u,h2,rfl⟩
theorem Ord.rank{l:List Th}(h:Ord l):(l.map Th.n).Nodup->∃rk:Str->Nat,∀t∈l,rk t.n<l.length/\∀p,t.s=some p->rk p<rk t.n/\∃u∈l,u.n=p:=by
 induction h with
 |nil=>exact λ_=>⟨λ_=>0,λt ht=>(bX ht).elim⟩
 |@snoc l r h h' ih=>
  intro nd;rw[aS,bJ]at nd;obtain⟨rk,hk⟩:=ih nd.1;have ne:∀u∈l,u.n≠r.n:=λu hu z=>nd.2.2 _ (bM hu) _ (by simp) z;refine⟨λx=>if x=r.n then l.length else rk x,λt ht=>?_⟩;rw[au,bP];dsimp only;rcases aQ.mp ht with ht|ht
  ·obtain⟨h1,h2⟩:=hk t ht;rw[aj (ne t ht)];refine⟨by omega,λp hp=>?_⟩;obtain⟨h3,u,hu,rfl⟩:=h2 p hp;rw[aj (ne u hu)];exact⟨h3,u,bg _ hu,rfl⟩
  ·rw[aX]at ht;subst ht;rw[ah rfl];refine⟨by omega,λp hp=>?_⟩;obtain⟨u,hu,rfl⟩:=h'.start hp;rw[aj (ne u hu)];exact⟨(hk u hu).1,u,bg _ hu,rfl⟩
theorem CT(k:Nat)(h:k<=ds.length):cutD ds none (some (k:Int))=ds.take k:=by unfold cutD;rw[HT.Fm,HT.HY,l7 h,mn,Nat.sub_zero]
theorem MA(k:Nat)(h:k<=ds.length):cutD ds (some (k:Int)) none=ds.drop k:=by unfold cutD;rw[HT.Fm,HT.HY,l7 h,fH (by rw[dw];omega)]
def wdL:List (Str×List Str):=rmL.map (λx:Str=>(x,([x,"place"]:List Str)))++(("me", ["me", "self"]):Str×List Str)::plL
def Th.nw(t:Th):Str×List Str:=(t.n,t.w)
def yT(t:Th):Prop:=t.nw∈wdL/\(t.k.pl=true->t.nw∈plL)
theorem E7{t:Th}(h:yT t):vP [.tup (t.w.map D.str)]=some (.bl true):=xG (aE.mp (show (wdL.all λq=>isT (vP [.tup (q.2.map D.str)]))=true by kernel_rfl) t.nw h.1)
theorem HB(t u:Th)(ht:t.nw∈plL)(hu:u.nw∈plL)(hne:u.n≠t.n):wL [.tup (u.w.map D.str),.tup (t.w.map D.str)]=some (.bl false):=by
 have h:=aE.mp (aE.mp (show (plL.all λp=>plL.all λq=>decide (q.1=p.1)||isF (wL [.tup (q.2.map D.str),.tup (p.2.map D.str)]))=true by kernel_rfl) t.nw ht) u.nw hu;rw[gZ]at h;rcases h with h|h
 ·exact ao (bx h) hne
 ·exact Hy h
theorem DC(P:List Th)(hl:P.length<=900)(hw:∀t∈P,t.nw∈plL)(t:Th)(ht:t.nw∈plL):uE [TD P,thD t]=some (.bl true):=by
 let O:=P.filter λu=>!decide (u.n=t.n);let ρ:List Sl:=[.im (TD P),.im (thD t),.im (TD O)];have hO:O.length<=900:=bc (b9 _ _) hl;refine qk (ρ:=ρ) rfl ?_;unfold uD;refine(px (ρ':=ρ) ((pO (qu (uf thD thD (λu=>!decide (u.n=t.n)) P (ρ1:=[.im (TD P),.im (thD t),.un]) rfl (by omega) λu _=>⟨[.im (thD u),.im (thD t)],[.im (thD u),.im (thD t)],rfl,rb (pT (qv rfl (vB u)) (qv rfl (vB t)) (BJ true u.n t.n)),λ_=>⟨_,rfl,rfl⟩,λ_=>rfl⟩))).trans rfl)).trans ?_;have e:c1 Ci (cL (pH 1 [1] (iL (cV 2)) (gN 0) qg (pC wL (aCons (c1 (pG r9 "words") (cV 0)) (aCons (c1 (pG r9 "words") (cV 1)) qe))))) ρ=some (.bl false,ρ):=
  Mx thD O rfl (by omega) λu hu=>⟨[.im (thD u),.im (thD t)],[.im (thD u),.im (thD t)],rfl,pz (pB (qv rfl (E2 u)) (pB (qv rfl (E2 t)) rfl)) (HB t u ht (hw u (bp.mp hu).1) (by simpa using (bp.mp hu).2)),rfl⟩
 refine qa ?_;unfold zg;rw[e];rfl
theorem CU(T:List Th)(hl:T.length<=900)(hw:∀t∈T,yT t):rL [TD T]=some .non:=by let P:=T.filter λt=>t.k.pl;have hP:P.length<=900:=bc (b9 _ _) hl;have hwP:∀t∈P,t.nw∈plL:=λt ht=>(hw t (bp.mp ht).1).2 (bp.mp ht).2;let ρ:List Sl:=[.im (TD T),.im (TD P)];refine xg (ρ:=ρ) rfl ?_;unfold rK;refine(px (rX (ρ1:=[.im (TD T),.un]) (ug thD T rfl (by omega) λt ht=>⟨[.im (thD t)],[.im (thD t)],rfl,pz (pB (qv rfl (E2 t)) rfl) (E7 (hw t ht)),rfl⟩))).trans ?_;refine(px (ρ':=ρ) ((pO (qu (pz rfl (wx T (by omega))))).trans rfl)).trans ?_;exact rX (ρ1:=ρ) (ug thD P rfl (by omega) λt ht=>⟨[.im (thD t),.im (TD P)],[.im (thD t),.im (TD P)],rfl,pz rfl (DC P hP hwP t (hwP t ht)),rfl⟩)
theorem I0{b:Bool}(h:e ρ=some (.bl b,ρ1)):zg e ρ=some (.bl !b,ρ1):=by unfold zg;rw[h]
theorem CV{m:List Str}(hd:d=.lst (m.map D.str)\/d=.tup (m.map D.str))(hl:l.length<=900)(h:∀x∈l,x∉m):uq [.lst (l.map D.str),d]=some (.bl true):=by
 let ρ:List Sl:=[.im (.lst (l.map D.str)),.im d];refine qk (ρ:=ρ) rfl ?_;have e:c1 Ci (cL (pH 1 [1] (iL (cV 0)) (gN 0) qg (c2 (dIn false) (cV 0) (cV 1)))) ρ=some (.bl false,ρ):=Mx D.str l rfl (by omega) λx hx=>⟨[.im (.str x),.im d],[.im (.str x),.im d],rfl,pT rfl rfl (by
  rcases hd with rfl|rfl
  ·rw[ve];simp[h x hx]
  ·rw[LX];simp[h x hx]),rfl⟩
 exact qa (I0 e)
structure Vb where
 n:Str
 o:List Str
 f:Str
 j:Option Str
def vbO(v:Vb):L4.D:=.obj 2 ["name", "others", "form", "joining"] [.str v.n,.tup (v.o.map D.str),.str v.f,oS v.j]
def v6:List Vb:=[⟨"push", ["shove", "p"],"one", none⟩,⟨"tie", [],"two", some "to"⟩,⟨"sing", ["hum"],"alone", none⟩,⟨"swim", ["dive"],"way", none⟩,⟨"takes", [],"two", some "in"⟩,⟨"w", [],"alone", none⟩]
def v9:List Vb:=[⟨"take", [],"one", none⟩,⟨"drop", [],"one", none⟩,⟨"open", [],"one", none⟩,⟨"shut", [],"one", none⟩,⟨"light", [],"one", none⟩,⟨"douse", [],"one", none⟩,⟨"put", [],"two", some "in"⟩,⟨"go", [],"way", none⟩,⟨"wait", [],"alone", none⟩]
abbrev VD(V:List Vb):L4.D:=.lst (V.map vbO)
def vL(t n:Nat):List Vb:=(v6.drop t++v6.take t).take n
theorem MB:tS []=some (v9.map vbO):=by kernel_rfl
def Vb.ws(v:Vb):List Str:=v.n::v.o
def vW:List Str:=(v6++v9).flatMap Vb.ws
def bW:List Str:=["to", "in", "north", "up", "outside"]
def V42(p:List Vb->Bool):Bool:=(aL 6).all λt=>(aL 7).all λn=>p (vL t n)
variable{t:Nat}
theorem v42{p:List Vb->Bool}(h:V42 p=true){n:Nat}(ht:t<6)(hn:n<7):p (vL t n)=true:=aE.mp (aE.mp h t (bo.mpr ht)) n (bo.mpr hn)
theorem E8{n:Nat}{v:Vb}(h:v∈vL t n):v∈v6:=by
 rcases aQ.mp (fJ h)with h|h
 ·exact kj h
 ·exact fJ h
theorem CW(t n:Nat):(vL t n).length<=6:=by unfold vL;rw[bz,au,dw,bz];show min n (6 - t+min t 6)<=6;omega
def isN:Option L4.D->Bool
 |some .non=>true
 |_=>false
theorem Tq(h:isN o=true):o=some .non:=by
 unfold isN at h;split at h
 ·rfl
 ·cases h
theorem CY{n:Nat}(ht:t<6)(hn:n<7):sJ [VD (vL t n)]=some .non:=Tq (v42 (p:=λV=>isN (sJ [VD V])) (by kernel_rfl) ht hn)
theorem MC{n:Nat}(ht:t<6)(hn:n<7):((vL t n++v9).flatMap Vb.ws).Nodup:=bx (v42 (p:=λV=>decide ((V++v9).flatMap Vb.ws).Nodup) (by kernel_rfl) ht hn)
theorem vws{V:List Vb}(h:∀v∈V,v∈v6):∀x∈(V++v9).flatMap Vb.ws,x∈vW:=λx hx=>by
 obtain⟨v,hv,hx⟩:=c9.mp hx;refine c9.mpr ⟨v,?_,hx⟩;rcases aQ.mp hv with hv|hv
 ·exact bg _ (h v hv)
 ·exact aZ _ hv
structure Wy where
 r:Str
 w:Str
 g:Str
 m:Option Str
def wyO(w:Wy):L4.D:=.tup [.str w.r,.str w.w,.str w.g,oS w.m]
abbrev WD(W:List Wy):L4.D:=.lst (W.map wyO)
def mkN(T:List Th)(M:List Mk):List Str:=(T.filter λt=>t.k.mk).map Th.n++M.map Mk.n
structure E9(T:List Th)(M:List Mk)(w:Wy):Prop where
 hr:w.r∈rmN T
 hw:w.w∈(["north", "up", "outside"]:List Str)
 hg:w.g∈rmN T
 hm:∀x,w.m=some x->x∈mkN T M
theorem Ja(l:List L4.D)(n:Int)(h:(l.length:Int)<=n):qw [.lst l,.int n]=some (.bl true):=by
 have e:qw [.lst l,.int n]=some (.bl (decide ((l.length:Int)<=n))):=by kernel_rfl
 rw[e,aR h]
variable{e':FE}
theorem Al(h1:e ρ=some (.bl false,ρ1)):cOr e e' ρ=e' ρ1:=by unfold cOr;rw[h1]
theorem Fb(h1:e ρ=some (.bl true,ρ1)):cOr e e' ρ=some (.bl true,ρ1):=by unfold cOr;rw[h1]
variable{M:List Mk}
theorem Kb{w:Wy}(h:E9 T M w):CM [wyO w,.lst ((rmN T).map D.str),.lst ((mkN T M).map D.str)]=some (.bl true):=by
 let R:L4.D:=.lst ((rmN T).map D.str);let K:L4.D:=.lst ((mkN T M).map D.str);let ρ:List Sl:=[.im (wyO w),.im R,.im K,.un];let σ:List Sl:=[.im (wyO w),.im R,.im K,.im (.bl true)];refine qk (ρ:=σ) rfl ?_;unfold CL;refine(px (ρ':=ρ) rfl).trans ?_;have e3:cOr (c2 zQ (c2 dIx (cV 0) (cC (.int 3))) (cC D.non)) (pC ql (aCons (c2 dIx (cV 0) (cC (.int 3))) (a1 (cV 2)))) ρ=some (.bl true,ρ):=by
  obtain⟨r,x,g,m⟩:=w;cases m with
  |none=>rfl
  |some y=>exact(Al (ρ1:=ρ) rfl).trans (pz (ds:=[.str y,K]) rfl (uV (h.hm y rfl)))
 refine(px (ρ':=σ) ((pO e3).trans rfl)).trans (qa ?_);have ew:sC [.str w.w]=some (.bl true):=xG (aE.mp (show ((["north", "up", "outside"]:List Str).all λx=>isT (sC [.str x]))=true by kernel_rfl) w.w h.hw);exact(qj (pz (ds:=[.str w.r,R]) rfl (uV h.hr))).trans ((qj (pz (ds:=[.str w.w]) rfl ew)).trans ((qj (pz (ds:=[.str w.g,R]) rfl (uV h.hg))).trans rfl))
theorem Jb:∀W:List Wy,A7 (W.map λw=>D.tup [.str w.r,.str w.w])=some (W.map λw=>[w.r,w.w])
 |[]=>rfl
 |w::W=>by rw[aG];unfold A7;rw[Jb W];rfl
theorem DD{W:List Wy}(hl:W.length<=8)(h:∀w∈W,E9 T M w)(nd:(W.map λw=>[w.r,w.w]).Nodup):xt [WD W,.lst ((rmN T).map D.str),.lst ((mkN T M).map D.str)]=some .non:=by
 let R:L4.D:=.lst ((rmN T).map D.str);let K:L4.D:=.lst ((mkN T M).map D.str);let ρ:List Sl:=[.im (WD W),.im R,.im K,.un];let σ:List Sl:=[.im (WD W),.im R,.im K,.im (.bl true)];refine xg (ρ:=σ) rfl ?_;unfold xq;refine(px (ρ':=σ) ((pO ((qj (pz (ds:=[WD W,ym]) rfl (Ja _ _ (by rw[af];omega)))).trans (ug wyO W (ρ1:=ρ) rfl (by omega) λw hw=>⟨[.im (wyO w),.im R,.im K],[.im (wyO w),.im R,.im K],rfl,pz rfl (Kb (h w hw)),rfl⟩))).trans rfl)).trans ?_;refine(px (rX (ρ1:=σ) rfl)).trans (rX (ρ1:=σ) (pz (pB (qu (rQ wyO (λw=>.tup [.str w.r,.str w.w]) W (ρ1:=σ) rfl (by omega) λw _=>⟨[.im (wyO w)],[.im (wyO w)],rfl,rfl,rfl⟩)) rfl) ?_));refine qk (ρ:=[.im (.lst (W.map λw:Wy=>D.tup [.str w.r,.str w.w]))]) rfl (qa (pT (x:=.int W.length) (y:=.int W.length) (qv rfl ?_) (qv rfl ?_) ?_))
 ·have e0:sf (W.map λw=>D.tup [.str w.r,.str w.w])=none\/sf (W.map λw=>D.tup [.str w.r,.str w.w])=some (.int W.length):=by
   cases W with
   |nil=>exact .inr rfl
   |cons w W=>exact .inl rfl
  show (match sf (W.map λw:Wy=>D.tup [.str w.r,.str w.w])with|some r=>some r|none=>zl (W.map λw:Wy=>D.tup [.str w.r,.str w.w]))=_;rcases e0 with e0|e0
  ·rw[e0];show zl _=_;unfold zl;rw[Jb];dsimp only;rw[ah ⟨nd,by rw[af];exact hl⟩,af]
  ·rw[e0]
 ·show some (D.int _)=_;rw[af]
 ·rw[uL];simp
theorem Tr{t:Th}(h:t.nw∈plL):t.w.length<=3:=bx (aE.mp (show (plL.all λq=>decide (q.2.length<=3))=true by kernel_rfl) t.nw h)
theorem CZ{a b c s5 s6 s7:Sl}:∀(P:List Th) (acc:List Str) (s:Sl),acc.length+3 * P.length<=900->(∀t∈P,t.nw∈plL)->
  ∃s',forL (gN 4) (qb (yc 3 (c1 (pG r9 "words") (cV 4)))) (P.map thD) [a,b,c,.ls (acc.map D.str),s,s5,s6,s7]=some (.nx [a,b,c,.ls ((acc++P.flatMap Th.w).map D.str),s',s5,s6,s7])
 |[],acc,s,_,_=>⟨s,by simp;rfl⟩
 |t::P,acc,s,hl,hw=>by
  have h3:=Tr (hw t aP);rw[aB]at hl;obtain⟨s',e⟩:=CZ P (acc++t.w) (.im (thD t)) (by rw[au];omega) λu hu=>hw u (aO _ hu);refine⟨s',?_⟩;rw[aG];unfold forL;have e1:qb (yc 3 (c1 (pG r9 "words") (cV 4))) [a,b,c,.ls (acc.map D.str),.im (thD t),s5,s6,s7]=some (.nx [a,b,c,.ls ((acc++t.w).map D.str),.im (thD t),s5,s6,s7]):=by refine(qF (d:=.non) (ρ':=[a,b,c,.ls ((acc++t.w).map D.str),.im (thD t),s5,s6,s7]) ?_);unfold yc;show (if (acc.map D.str).length+(t.w.map D.str).length<=1000 then some (D.non,[a,b,c,.ls (acc.map D.str++t.w.map D.str),.im (thD t),s5,s6,s7])else none)=_;rw[ah (by rw[af,af];omega),aS]
  rw[show gN 4 (thD t) [a,b,c,.ls (acc.map D.str),s,s5,s6,s7]=some [a,b,c,.ls (acc.map D.str),.im (thD t),s5,s6,s7] from rfl];simp only[e1];rw[e,cZ,bq]
theorem Jc{a b c s3 s4 s7:Sl}:∀(V:List Vb) (acc:List Str) (s:Sl),acc.length+3 * V.length<=900->(∀v∈V,v.o.length<=2)->
  ∃s',forL (gN 6) (qb (yc 5 (A1 (qd (a1 (c1 (pG pI "name") (cV 6)))) (c1 (pG sr "others") (cV 6))))) (V.map vbO) [a,b,c,s3,s4,.ls (acc.map D.str),s,s7]=some (.nx [a,b,c,s3,s4,.ls ((acc++V.flatMap Vb.ws).map D.str),s',s7])
 |[],acc,s,_,_=>⟨s,by simp;rfl⟩
 |v::V,acc,s,hl,hw=>by
  have h3:=hw v aP;rw[aB]at hl;have lw:v.ws.length<=3:=by unfold Vb.ws;rw[aB];omega
  obtain⟨s',e⟩:=Jc (a:=a) (b:=b) (c:=c) (s3:=s3) (s4:=s4) (s7:=s7) V (acc++v.ws) (.im (vbO v)) (by rw[au];omega) λu hu=>hw u (aO _ hu);refine⟨s',?_⟩;rw[aG];unfold forL;let ρ:List Sl:=[a,b,c,s3,s4,.ls (acc.map D.str),.im (vbO v),s7];have e0:A1 (qd (a1 (c1 (pG pI "name") (cV 6)))) (c1 (pG sr "others") (cV 6)) ρ=some (.tup (v.ws.map D.str),ρ):=by show (if ([]:List L4.D).length+(v.o.map D.str).length<=900 then some (D.tup (.str v.n::[]++v.o.map D.str),ρ)else none)=_;rw[ah (by rw[af];simp only[de];omega)];rfl
  have e1:qb (yc 5 (A1 (qd (a1 (c1 (pG pI "name") (cV 6)))) (c1 (pG sr "others") (cV 6)))) ρ=some (.nx [a,b,c,s3,s4,.ls ((acc++v.ws).map D.str),.im (vbO v),s7]):=by refine qF (d:=.non) ?_;unfold yc;rw[e0];show (if (acc.map D.str).length+(v.ws.map D.str).length<=1000 then some (D.non,[a,b,c,s3,s4,.ls (acc.map D.str++v.ws.map D.str),.im (vbO v),s7])else none)=_;rw[ah (by rw[af,af];omega),aS]
  rw[show gN 6 (vbO v) [a,b,c,s3,s4,.ls (acc.map D.str),s,s7]=some ρ from rfl];simp only[e1];rw[e,cZ,bq]
def jsN(V:List Vb):List Str:=V.filterMap Vb.j
theorem VX{V:List Vb}(h:∀v∈V,v∈v6):∀v∈V++v9,v.o.length<=2:=λv hv=>by
 have a:=aE.mp (show ((v6++v9).all λv=>decide (v.o.length<=2))=true by kernel_rfl) v (by
  rcases aQ.mp hv with hv|hv
  ·exact bg _ (h v hv)
  ·exact aZ _ hv)
 exact bx a
theorem Vk(V:List Vb)(hl:V.length<=900)(h2:cV 2 ρ=some (VD V,ρ)):pH 1 [] (iL (cV 2)) (gN 0) (cT (c2 uk (c1 (pG rD "joining") (cV 0)) (cC D.non))) (c1 (pG rD "joining") (cV 0)) ρ=some ((jsN V).map D.str,ρ):=by
 have hs:iL (cV 2) ρ=some (V.map vbO,ρ):=by unfold iL;rw[h2]
 refine(uf (k:=1) (cap:=[]) (g:=gN 0) (ft:=cT (c2 uk (c1 (pG rD "joining") (cV 0)) (cC D.non))) (fe:=c1 (pG rD "joining") (cV 0)) vbO (λv=>oS v.j) (λv=>v.j.isSome) V hs (by omega) λv _=>⟨[.im (vbO v)],[.im (vbO v)],rfl,?_,λ_=>⟨[.im (vbO v)],rfl,rfl⟩,λ_=>rfl⟩).trans ?_
 ·obtain⟨n,o,f,j⟩:=v;cases j<;>rfl
 ·congr 2;unfold jsN;clear hs h2 hl
  induction V with
  |nil=>rfl
  |cons v V ih=>
   obtain⟨n,o,f,j⟩:=v;cases j with
   |none=>rw[jX (by simp),List.filterMap_cons_none rfl];exact ih
   |some x=>rw[iz (by simp)];exact bj (D.str x::·) ih
theorem Da{W:List Wy}{n:Nat}(hl:T.length<=200)(hw:∀t∈T,yT t)(hW:W.length<=8)(ww:∀w∈W,w.w∈(["north", "up", "outside"]:List Str))(ht:t<6)(hn:n<7):rV [TD T,WD W,VD (vL t n++v9)]=some .non:=by
 let V:=vL t n++v9;have v6m:∀v∈vL t n,v∈v6:=λv hv=>E8 hv;have lV:V.length<=15:=by show (vL t n++v9).length<=15;rw[au];have:=CW t n;show (vL t n).length+9<=15;omega
 let P:=T.filter λt=>t.k.pl;have hP:P.length<=200:=bc (b9 _ _) hl;have hwP:∀t∈P,t.nw∈plL:=λt ht=>(hw t (bp.mp ht).1).2 (bp.mp ht).2;let A:Sl:=.im (TD T);let B:Sl:=.im (WD W);let C:Sl:=.im (VD V);obtain⟨s',e1⟩:=CZ (a:=A) (b:=B) (c:=C) (s5:=.un) (s6:=.un) (s7:=.un) P [] .un (by simp;omega) hwP;let O:=P.flatMap Th.w;let U:=V.flatMap Vb.ws;let m1:Sl:=.ls (O.map D.str);obtain⟨z,e2⟩:=Jc (a:=A) (b:=B) (c:=C) (s3:=m1) (s4:=s') (s7:=.un) V [] .un (by simp;omega) (VX v6m);let bt:List Str:=jsN V++W.map Wy.w;let Z:Sl:=.im (.lst (bt.map D.str));have lU:U.length<=100:=by have h:=vws v6m;have h2:=F9 (MC ht hn) h;exact bc h2 (iB (by kernel_rfl))
 have lJ:(jsN V).length<=15:=bc (List.length_filterMap_le _ _) lV;have lB:bt.length<=100:=by show (jsN V++W.map Wy.w).length<=100;rw[au,af];omega
 have bIn:∀x∈bt,x∈bW:=λx hx=>by
  rcases aQ.mp hx with hx|hx
  ·obtain⟨v,hv,e⟩:=gS.mp hx;have a:=aE.mp (show ((v6++v9).all λv=>match v.j with|some x=>decide (x∈bW)|none=>true)=true by kernel_rfl) v (by
    rcases aQ.mp hv with hv|hv
    ·exact bg _ (v6m v hv)
    ·exact aZ _ hv)
   rw[e]at a;exact bx a
  ·obtain⟨w,hw,rfl⟩:=az.mp hx;exact(show ∀x∈(["north", "up", "outside"]:List Str),x∈bW by decide) _ (ww w hw)
 have oIn:∀x∈O,x∈plL.flatMap bf:=λx hx=>by obtain⟨t,ht,hxt⟩:=c9.mp hx;exact c9.mpr ⟨t.nw,hwP t ht,hxt⟩
 have uIn:∀x∈U,x∈vW:=vws v6m;have s1:∀x∈vW++bW,x∉plL.flatMap bf:=by decide +kernel
 have s2:∀x∈vW++bW,x∉(["the", "a", "undo", "restart"]:List Str):=by decide +kernel
 have s3:∀x∈bW,x∉vW:=by decide +kernel
 have ub:∀x∈U++bt,x∈vW++bW:=λx hx=>by
  rcases aQ.mp hx with hx|hx
  ·exact bg _ (uIn x hx)
  ·exact aZ _ (bIn x hx)
 have lUB:(U++bt).length<=900:=by rw[au];omega
 let UL:L4.D:=.lst (U.map D.str);refine xg (ρ:=[A,B,C,.im (.lst (O.map D.str)),s',.im UL,z,Z]) rfl ?_;unfold sX;refine(px (ρ':=[A,B,C,.ls [],.un,.un,.un,.un]) rfl).trans ?_;refine(px (ρ':=[A,B,C,m1,s',.un,.un,.un]) ((sG (ds:=P.map thD) (ρ1:=[A,B,C,.ls [],.un,.un,.un,.un]) ?_).trans e1)).trans ?_
 ·unfold iL;rw[qu (pz (g:=sE) (ds:=[TD T]) (ρ1:=[A,B,C,.ls [],.un,.un,.un,.un]) rfl (wx T (by omega)))]
 refine(px (ρ':=[A,B,C,m1,s',.ls [],.un,.un]) rfl).trans ?_;refine(px (ρ':=[A,B,C,m1,s',.ls (U.map D.str),z,.un]) ((sG (ds:=V.map vbO) (ρ1:=[A,B,C,m1,s',.ls [],.un,.un]) rfl).trans e2)).trans ?_;refine(px (ρ':=[A,B,C,m1,s',.ls (U.map D.str),z,Z]) ((pO (qu (qP (qu (Vk V (by omega) rfl)) (qu (rQ wyO (λw=>.str w.w) W (ρ1:=[A,B,C,m1,s',.ls (U.map D.str),z,.un]) rfl (by omega) λw _=>⟨[.im (wyO w)],[.im (wyO w)],rfl,rfl,rfl⟩)) (by rw[af,af];omega)))).trans ?_)).trans ?_
 ·show some (Out.nx [A,B,C,m1,s',.ls (U.map D.str),z,.im (.lst ((jsN V).map D.str++W.map λw=>.str w.w))])=_;rw[show (jsN V).map D.str++(W.map λw=>D.str w.w)=bt.map D.str by show _=(jsN V++W.map Wy.w).map D.str;rw[aS,aJ];rfl]
 refine(px (rX (ρ1:=[A,B,C,m1,s',.im UL,z,Z]) (pz (ds:=[UL]) rfl (zA (MC ht hn) (by omega))))).trans ?_;have ca:∀(q:Sl),cL (qS (cFz 5) (cV 7)) [A,B,C,q,s',.im UL,z,Z]=some (.lst ((U++bt).map D.str),[A,B,C,q,s',.im UL,z,Z]):=λq=>(qu (qP (xs:=U.map D.str) (ys:=bt.map D.str) (ρ1:=[A,B,C,q,s',.im UL,z,Z]) rfl rfl (by rw[af,af];omega))).trans (by rw[<-aS]);refine(px (rX (ρ1:=[A,B,C,.im (.lst (O.map D.str)),s',.im UL,z,Z]) (pz (pB (ca m1) (pB rfl rfl)) (CV (l:=U++bt) (m:=O) (.inl rfl) lUB λx hx ho=>s1 x (ub x hx) (oIn x ho))))).trans ?_;refine(px (rX (ρ1:=[A,B,C,.im (.lst (O.map D.str)),s',.im UL,z,Z]) (pz (pB (ca _) (pB rfl rfl)) (CV (l:=U++bt) (m:=["the", "a", "undo", "restart"]) (.inr rfl) lUB λx hx=>s2 x (ub x hx))))).trans ?_;exact rX (ρ1:=[A,B,C,.im (.lst (O.map D.str)),s',.im UL,z,Z]) (pz (pB rfl (pB rfl rfl)) (CV (l:=bt) (m:=U) (.inl rfl) (by omega) λx hx hu=>s3 x (bIn x hx) (uIn x hu)))
structure Good(T:List Th)(M:List Mk)(dk:List Str)(W:List Wy):Prop where
 len:T.length<=13
 r1:1<=(T.filter λt=>decide (t.k=.room)).length
 r5:(T.filter λt=>decide (t.k=.room)).length<=5
 y1:(T.filter λt=>decide (t.k=.you)).map Th.n=(["me"]:List Str)
 p7:(T.filter λt=>t.k.pl).length<=7
 m4:M.length<=4
 mo:∀m∈M,m.ok
 nm:∀x∈T.map Th.n++M.map Mk.n,Nm x
 nd:(T.map Th.n++M.map Mk.n).Nodup
 st:∀t∈T,Ak T t
 rk:∃r,E5 T r
 wd:∀t∈T,yT t
 d0:dk.length<=5
 d1:dk.Nodup
 d2:∀x∈dk,x∈rmN T
 w8:W.length<=8
 wo:∀w∈W,E9 T M w
 wn:(W.map λw=>[w.r,w.w]).Nodup
section
variable{T:List Th}{M:List Mk}{dk:List Str}{W:List Wy}
theorem Good.ndT(g:Good T M dk W):(T.map Th.n).Nodup:=(bJ.mp g.nd).1
theorem DE(T:List Th)(M:List Mk)(hl:T.length<=200)(hM:M.length<=4):uN [TD T,MD M]=some ((mkN T M).map D.str):=by
 let ρ:List Sl:=[.im (TD T),.im (MD M)];have h:=b9 (λt:Th=>t.k.mk) T;refine(vc (ρ:=ρ) rfl (se (qP (qu (uf thD (λt=>D.str t.n) (λt=>t.k.mk) T (ρ1:=ρ) rfl (by omega) λt _=>⟨[.im (thD t)],[.im (thD t)],rfl,rb (rE (xs:=[.str t.n,.tup (t.w.map D.str),.str t.k.s,oS t.s]) (ys:=[]) rfl rfl rfl rfl (IY t)),λ_=>⟨_,qv rfl (vB t),rfl⟩,λ_=>rfl⟩))
  (qu (rQ mkD (λt=>D.str t.n) M rfl (by omega) λt _=>⟨_,_,rfl,qv rfl (E4 t),rfl⟩)) (by rw[af,af];omega)))).trans ?_
 unfold mkN;rw[aS,aJ,aJ];rfl
theorem Dc(g:Good T M dk W){n:Nat}(ht:t<6)(hn:n<7):wc [TD T,MD M,.lst (dk.map D.str),WD W,VD (vL t n),VD v9]=some .non:=by
 have hl:=g.len;have hm:=g.m4;have hdk:dk.length<=1000:=by have:=g.d0;omega
 have y1:(T.filter λt=>decide (t.k=.you)).length=1:=by have:=bj cg g.y1;rw[af]at this;exact this
 obtain⟨r,hr⟩:=g.rk;let ρ0:List Sl:=[.im (TD T),.im (MD M),.im (.lst (dk.map D.str)),.im (WD W),.im (VD (vL t n)),.im (VD v9),.un];let ρ:List Sl:=[.im (TD T),.im (MD M),.im (.lst (dk.map D.str)),.im (WD W),.im (VD (vL t n)),.im (VD v9),.im (.lst ((rmN T).map D.str))];refine xg (ρ:=ρ) rfl ?_;unfold wb;refine(px (qF (ρ':=ρ0) (pz rfl (BB T (by omega) g.r1 g.r5 y1 g.p7)))).trans ?_;refine(px (qF (ρ':=ρ0) (pz rfl (CQ M g.m4 g.mo)))).trans ?_;refine(px (qF (ρ':=ρ0) (pz rfl (CS T M (by omega) (by omega) g.nm g.nd)))).trans ?_;refine(px (qF (ρ':=ρ0) (pz rfl (BC T (by omega) g.ndT r hr g.st)))).trans ?_;refine(px (qF (ρ':=ρ0) (pz rfl (CU T (by omega) g.wd)))).trans ?_;refine(px (ρ':=ρ) ((pO (qu (Gk T (by omega) rfl))).trans rfl)).trans ?_;refine(px (qF (ρ':=ρ) (pz rfl (DB dk (rmN T) hdk g.d1 g.d2)))).trans ?_;refine(px (qF (ρ':=ρ) (pz (pB rfl (pB rfl (pB (qu (pz (g:=uN) (ds:=[TD T,MD M]) rfl (DE T M (by omega) hm))) rfl))) (DD g.w8 g.wo g.wn)))).trans ?_;refine(px (qF (ρ':=ρ) (pz (g:=sJ) (ds:=[VD (vL t n)]) (r:=.non) rfl (CY ht hn)))).trans ?_;refine qF (ρ':=ρ) (pz (g:=rV) (ds:=[TD T,WD W,VD (vL t n++v9)]) (pB rfl (pB rfl (pB ((qu (qP (xs:=(vL t n).map vbO) (ys:=v9.map vbO) (ρ1:=ρ) rfl rfl ?_)).trans (by rw[<-aS])) rfl))) (Da (by omega) g.wd g.w8 (λw hw=>(g.wo w hw).hw) ht hn));have:=CW t n;rw[af,af];show (vL t n).length+9<=1000;omega
theorem HC(T:List Th)(hl:T.length<=900)(nd:(T.map Th.n).Nodup):AI [TD T]=some (.dic (nK T) (T.map thD)):=by
 obtain⟨s',e1⟩:=yS (g:=gN 2) (i:=1) (fk:=c1 (pG pI "name") (cV 2)) (fv:=cV 2) thD Th.n thD (λks ds s=>[.im (TD T),.dk ks ds,s])
  (λt ks ds s=>⟨[.im (TD T),.dk ks ds,.im (thD t)],rfl,rfl,rfl,qv rfl (vB t),λks' ds'=>⟨_,rfl⟩⟩) T [] [] .un (by rw[bY];exact My nd) (by simp;omega) rfl
 refine qk (ρ:=[.im (TD T),.im (.dic (nK T) (T.map thD)),s']) rfl ?_;unfold AH;refine(px (ρ':=[.im (TD T),.dk [] [],.un]) rfl).trans ?_;refine(px ((sG rfl).trans e1)).trans ?_;rw[bY,bY];rfl
def mP(T:List Th)(M:List Mk):List (Str×Int):=(T.filter λt=>t.k.mk).map (λt=>(t.n,1))++M.map λm=>(m.n,m.mo)
theorem ME(T:List Th)(M:List Mk):(mP T M).map bU=mkN T M:=by unfold mP mkN;rw[aS,aJ,aJ];rfl
theorem O5(m:Mk):pG sI "most" (mkD m)=some (.int m.mo):=rfl
theorem AQ{a b e:Sl}:∀(l:List Th) (ks:List Key) (ds:List L4.D) (s:Sl),(ks++(l.filter λt=>t.k.mk).map λt=>kS t.n).Nodup->ks.length+l.length<=900->ds.length=ks.length->
  ∃s',forL (gN 3) (sIf (cT (qB rJ "has_mark" (cV 3) qe)) (uz 2 (c1 (pG pI "name") (cV 3)) (cC (.int 1))) pQ) (l.map thD) [a,b,.dk ks ds,s,e]=some (.nx [a,b,.dk (ks++(l.filter λt=>t.k.mk).map λt=>kS t.n) (ds++(l.filter λt=>t.k.mk).map λ_=>.int 1),s',e])
 |[],ks,ds,s,_,_,_=>⟨s,by simp;rfl⟩
 |t::l,ks,ds,s,nd,hl,he=>by
  rw[aB]at hl;let ρ:List Sl:=[a,b,.dk ks ds,.im (thD t),e];have em:cT (qB rJ "has_mark" (cV 3) qe) ρ=some (t.k.mk,ρ):=rb (rE (xs:=[.str t.n,.tup (t.w.map D.str),.str t.k.s,oS t.s]) (ys:=[]) rfl rfl rfl rfl (IY t));rw[aG];unfold forL;rw[show gN 3 (thD t) [a,b,.dk ks ds,s,e]=some ρ from rfl];cases hm:t.k.mk with
  |true=>
   rw[hm]at em;rw[iz (p:=λt:Th=>t.k.mk) hm,aG]at nd;rw[iz (p:=λt:Th=>t.k.mk) hm];have hn:kS t.n∉ks:=λz=>by rw[bJ]at nd;exact nd.2.2 _ z _ aP rfl
   obtain⟨s',q⟩:=AQ (a:=a) (b:=b) (e:=e) l (ks++[kS t.n]) (ds++[.int 1]) (.im (thD t)) (by rw[bq];exact nd) (by rw[au,bP];omega) (by simp[he]);refine⟨s',?_⟩;simp only[(pR em).trans (Gp (i:=2) (fk:=c1 (pG pI "name") (cV 3)) (fv:=cC (.int 1)) (ρ:=ρ) (x:=t.n) rfl rfl (qv rfl (vB t)) hn (by omega) he)];refine Eq.trans q ?_;rw[bq,bq];rfl
  |false=>rw[hm]at em;rw[jX (p:=λt:Th=>t.k.mk) (by rw[hm];exact aT)]at nd ⊢;obtain⟨s',q⟩:=AQ (a:=a) (b:=b) (e:=e) l ks ds (.im (thD t)) nd (by omega) he;refine⟨s',?_⟩;simp only[qz em,pQ];exact q
def mD(T:List Th)(M:List Mk):L4.D:=.dic ((mP T M).map λq=>kS q.1) ((mP T M).map λq=>.int q.2)
theorem Good.ndK(g:Good T M dk W):(mkN T M).Nodup:=by unfold mkN;have h:=bJ.mp g.nd;refine bJ.mpr ⟨o6 (iJ.map _) h.1,h.2.1,λx hx y hy=>h.2.2 x ?_ y hy⟩;obtain⟨t,ht,rfl⟩:=az.mp hx;exact bM (bp.mp ht).1
theorem PK(g:Good T M dk W):((mP T M).map λq=>kS q.1).Nodup:=by have:=yM g.ndK;rw[<-ME,aJ]at this;exact this
theorem MF(g:Good T M dk W):uG [TD T,MD M]=some (mD T M):=by
 have nd:=PK g;have hl:=g.len;have hm:=g.m4;have e0:(mP T M).map (λq=>kS q.1)=(T.filter λt=>t.k.mk).map (λt=>kS t.n)++M.map λm=>kS m.n:=by unfold mP;rw[aS,aJ,aJ];rfl
 have e0':(mP T M).map (λq=>D.int q.2)=(T.filter λt=>t.k.mk).map (λ_=>D.int 1)++M.map λm=>D.int m.mo:=by unfold mP;rw[aS,aJ,aJ];rfl
 rw[e0]at nd;have hf:=b9 (λt:Th=>t.k.mk) T;obtain⟨s1,e1⟩:=AQ (a:=.im (TD T)) (b:=.im (MD M)) (e:=.un) T [] [] .un (by rw[bY];exact(bJ.mp nd).1) (by simp;omega) rfl;rw[bY,bY]at e1;obtain⟨s2,e2⟩:=yS (g:=gN 4) (i:=2) (fk:=c1 (pG pI "name") (cV 4)) (fv:=c1 (pG sI "most") (cV 4)) mkD Mk.n (λm=>.int m.mo) (λks ds s=>[.im (TD T),.im (MD M),.dk ks ds,s1,s])
  (λm ks ds s=>⟨[.im (TD T),.im (MD M),.dk ks ds,s1,.im (mkD m)],rfl,qv rfl (O5 m),rfl,qv rfl (E4 m),λks' ds'=>⟨_,rfl⟩⟩) M ((T.filter λt=>t.k.mk).map λt=>kS t.n) ((T.filter λt=>t.k.mk).map λ_=>.int 1) .un nd (by rw[af];omega) (by rw[af,af])
 refine qk (ρ:=[.im (TD T),.im (MD M),.im (mD T M),s1,s2]) rfl ?_;unfold uF;refine(px (ρ':=[.im (TD T),.im (MD M),.dk [] [],.un,.un]) rfl).trans ?_;refine(px ((sG rfl).trans e1)).trans ((px ((sG rfl).trans e2)).trans ?_);unfold mD;rw[e0,e0'];rfl
theorem HE(T:List Th)(hl:T.length<=1000)(ns:List Str)(rest:List L4.D)(k:Kd):uH [.obj 14 ("kept_things" ::ns) (TD T::rest),.str k.s]=some (.lst ((T.filter λt=>decide (t.k=k)).map λt=>D.str t.n)):=by let ρ:List Sl:=[.im (.obj 14 ("kept_things" ::ns) (TD T::rest)),.im (.str k.s)];refine EU (ρ:=ρ) rfl ?_;exact se (uf thD (λt=>D.str t.n) (λt=>decide (t.k=k)) T (ρ1:=ρ) rfl hl λt _=>⟨[.im (thD t),.im (.str k.s)],[.im (thD t),.im (.str k.s)],rfl,rb (pT (qv rfl (zz t)) rfl (CO t.k k)),λ_=>⟨_,qv rfl (vB t),rfl⟩,λ_=>rfl⟩)
end
def vwD(V:List Vb):L4.D:=.dic (V.flatMap λv=>v.ws.map kS) (V.flatMap λv=>v.ws.map λ_=>vbO v)
def p42:List (Nat×Nat):=(aL 6).flatMap λt=>(aL 7).map λn=>(t,n)
theorem Ts{n:Nat}(ht:t<6)(hn:n<7):(t,n)∈p42:=c9.mpr ⟨t,bo.mpr ht,az.mpr ⟨n,bo.mpr hn,rfl⟩⟩
theorem Tt:(p42.map λq=>sL [VD (vL q.1 q.2++v9)])=p42.map λq=>some (vwD (vL q.1 q.2++v9)):=by kernel_rfl
theorem Vl{n:Nat}(ht:t<6)(hn:n<7):sL [VD (vL t n++v9)]=some (vwD (vL t n++v9)):=List.map_inj_left.mp Tt (t,n) (Ts ht hn)
theorem MG:∀V:List Vb,(V.flatMap λv=>v.ws.map kS).zip (V.flatMap λv=>v.ws.map λ_=>vbO v)=V.flatMap λv=>v.ws.map λx=>(kS x,vbO v)
 |[]=>rfl
 |v::V=>by rw[cZ,cZ,cZ,jb (by rw[af,af]),MG V,jq]
theorem Tu{V:List Vb}(nd:(V.flatMap Vb.ws).Nodup){v:Vb}(hv:v∈V):xJ (vwD V) (.str v.n)=some (vbO v):=by
 show some ((vH (V.flatMap λv=>v.ws.map kS) (V.flatMap λv=>v.ws.map λ_=>vbO v) (kS v.n)).getD .non)=_;rw[zY (d:=vbO v)]
 ·rfl
 ·have:=yM nd;rw[List.map_flatMap]at this;exact this
 ·rw[MG];exact c9.mpr ⟨v,hv,az.mpr ⟨v.n,aP,rfl⟩⟩
def wNs:List Str:=["kept_things", "kept_marks", "kept_dark", "kept_ways", "kept_verbs", "shared_verbs", "your_name", "things_by_name", "mosts_by_name", "verbs_by_word", "kept_rules", "shared_rules", "copied_rules", "rules_by_verb"]
def w10(T:List Th)(M:List Mk)(dk:List Str)(W:List Wy)(V:List Vb):L4.D:=.obj 14 (wNs.take 10) [TD T,MD M,.lst (dk.map D.str),WD W,VD V,VD v9,.str "me", .dic (nK T) (T.map thD),mD T M,vwD (V++v9)]
def fms:List Str:=["one", "two", "alone", "way"]
def xL:List Str:="here" ::nmL
theorem Tv:(fms.all λf=>xL.all λx=>isF (qA [.str f,.str x]))=true:=by kernel_rfl
variable{f:Str}
theorem Ej(hf:f∈fms)(hx:x∈xL):qA [.str f,.str x]=some (.bl false):=Hy (aE.mp (aE.mp Tv f hf) x hx)
theorem Tw:(fms.all λf=>nmL.all λx=>isF (ue [.str f,.str x]))=true:=by kernel_rfl
theorem PM(hf:f∈fms)(hx:x∈nmL):ue [.str f,.str x]=some (.bl false):=Hy (aE.mp (aE.mp Tw f hf) x hx)
theorem MH(hf:f∈fms):ue [.str f,.str "here"]=some (.bl true):=xG (aE.mp (show (fms.all λf=>isT (ue [.str f,.str "here"]))=true by kernel_rfl) f hf)
def By(f x:Str):Prop:=(x="it" /\ f∈(["one", "two"]:List Str))\/(x="other" /\ f="two")
theorem Fc(h:By f x):qA [.str f,.str x]=some (.bl true):=by
 rcases h with ⟨rfl,h⟩|⟨rfl,rfl⟩
 ·exact xG (aE.mp (show ((["one", "two"]:List Str).all λf=>isT (qA [.str f,.str "it"]))=true by kernel_rfl) f h)
 ·kernel_rfl
def Tm(f:Str)(N:List Str)(x:Str):Prop:=x∈N\/x="here" \/ By f x
variable{q:Str×Int}{c:FT}{j:Nat}
section
variable{T:List Th}{M:List Mk}{dk:List Str}{W:List Wy}{V:List Vb}{f:Str}
theorem MI(g:Good T M dk W){t:Th}(h:t∈T):t.n∈nmL:=g.nm _ (bg _ (bM h))
theorem Vm(g:Good T M dk W){t:Th}(h:t∈T):qZ [w10 T M dk W V,.str t.n]=some (thD t):=by
 have e:qZ [w10 T M dk W V,.str t.n]=some ((vH (nK T) (T.map thD) (kS t.n)).getD .non):=by kernel_rfl
 rw[e,BN g.ndT thD h];rfl
theorem Vn(g:Good T M dk W)(h:q∈mP T M):sM [w10 T M dk W V,.str q.1]=some (.int q.2):=by
 have e:sM [w10 T M dk W V,.str q.1]=some ((vH ((mP T M).map λq=>kS q.1) ((mP T M).map λq=>.int q.2) (kS q.1)).getD .non):=by kernel_rfl
 rw[e,zY (d:=.int q.2) (PK g)]
 ·rfl
 ·rw[jq];exact bM (f:=λq:Str×Int=>(kS q.1,D.int q.2)) h
theorem Gq(h:c ρ=some (true,ρ1)):cIf c e e' ρ=e ρ1:=by unfold cIf;rw[h]
theorem nmd(g:Good T M dk W){t:Th}(h:t∈T):uO [w10 T M dk W V,.str t.n]=some (thD t):=by let ρ:List Sl:=[.im (w10 T M dk W V),.im (.str t.n)];refine qk (ρ:=ρ) rfl (qa ?_);refine(Gq (ρ1:=ρ) rfl).trans ?_;exact rE (hh:=qZ) (ys:=[.str t.n]) (ρ1:=ρ) (ρ2:=ρ) rfl rfl rfl rfl (Vm g h)
theorem xH(g:Good T M dk W)(hf:f∈fms)(h:Tm f (T.map Th.n) x):wN [w10 T M dk W V,.str f,.str x]=some (.bl true):=by
 let ρ:List Sl:=[.im (w10 T M dk W V),.im (.str f),.im (.str x)];refine qk (ρ:=ρ) rfl (qa ?_);rcases h with h|rfl|h
 ·obtain⟨t,ht,rfl⟩:=az.mp h;refine(Al (pz (ρ1:=ρ) (ds:=[.str f,.str t.n]) rfl (Ej hf (aO _ (MI g ht))))).trans ((Al (pz (ρ1:=ρ) (ds:=[.str f,.str t.n]) rfl (PM hf (MI g ht)))).trans ?_);exact pT (pz (ρ1:=ρ) (ds:=[w10 T M dk W V,.str t.n]) rfl (nmd g ht)) rfl rfl
 ·exact(Al (pz (ρ1:=ρ) (ds:=[.str f,.str "here"]) rfl (Ej hf aP))).trans (Fb (pz (ρ1:=ρ) (ds:=[.str f,.str "here"]) rfl (MH hf)))
 ·exact Fb (pz (ρ1:=ρ) (ds:=[.str f,.str x]) rfl (Fc h))
theorem VY(h:x∈hdN T):∃t∈T,t.n=x/\t.k.hd=true:=by obtain⟨t,ht,rfl⟩:=az.mp h;exact⟨t,(bp.mp ht).1,rfl,(bp.mp ht).2⟩
theorem De{c':FT}(h1:c ρ=some (true,ρ1)):tL c c' ρ=some (true,ρ1):=by unfold tL;rw[h1]
theorem Bs(g:Good T M dk W)(hf:f∈fms)(h:Tm f (hdN T) x):xx [w10 T M dk W V,.str f,.str x]=some (.bl true):=by
 let ρ:List Sl:=[.im (w10 T M dk W V),.im (.str f),.im (.str x)];refine qk (ρ:=ρ) rfl ?_;unfold zu;rcases h with h|rfl|h
 ·obtain⟨t,ht,rfl,hk⟩:=VY h;refine(px (ρ':=ρ) ((qz (ρ':=ρ) (vV (ρ1:=ρ) (rb (pz (ds:=[.str f,.str t.n]) rfl (Ej hf (aO _ (MI g ht))))) (rb (pz (ds:=[.str f,.str t.n]) rfl (PM hf (MI g ht)))))).trans rfl)).trans (qa ?_);have e:=nmd (V:=V) g ht;refine(qj (pT (pz (ρ1:=ρ) (ds:=[w10 T M dk W V,.str t.n]) rfl e) rfl rfl)).trans ?_;have e2:=rE (g:=qM) (m:="can_hold") (hh:=ud) (a:=qe) (ys:=[]) (ρ1:=ρ) (ρ2:=ρ) (xs:=[.str t.n,.tup (t.w.map D.str),.str t.k.s,oS t.s]) (pz (g:=uO) (a:=aCons (cV 0) (a1 (cV 2))) (ρ:=ρ) (ρ1:=ρ) (ds:=[w10 T M dk W V,.str t.n]) rfl e) rfl rfl rfl (IW t);rw[hk]at e2;exact e2
 ·exact p9 ((pR (ρ':=ρ) (vV (ρ1:=ρ) (rb (pz (ds:=[.str f,.str "here"]) rfl (Ej hf aP))) (rb (pz (ds:=[.str f,.str "here"]) rfl (MH hf))))).trans rfl)
 ·exact p9 ((pR (ρ':=ρ) (De (rb (pz (ds:=[.str f,.str x]) rfl (Fc h))))).trans rfl)
theorem PN(g:Good T M dk W){t:Th}(h:t∈T)(k:Kd):uP [w10 T M dk W V,.str t.n,.str k.s]=some (.bl (decide (t.k=k))):=by let ρ:List Sl:=[.im (w10 T M dk W V),.im (.str t.n),.im (.str k.s)];refine qk (ρ:=ρ) rfl (qa ?_);have e:=nmd (V:=V) g h;exact(qj (pT (pz (ρ1:=ρ) (ds:=[w10 T M dk W V,.str t.n]) rfl e) rfl rfl)).trans (pT (qv (pz (ρ1:=ρ) (ds:=[w10 T M dk W V,.str t.n]) rfl e) (zz t)) rfl (CO t.k k))
def Mv(T:List Th)(f x:Str):Prop:=(∃t∈T,t.n=x/\t.k≠.room)\/By f x
theorem Gr(g:Good T M dk W)(hf:f∈fms)(h:Mv T f x):zw [w10 T M dk W V,.str f,.str x]=some (.bl true):=by
 let ρ:List Sl:=[.im (w10 T M dk W V),.im (.str f),.im (.str x)];refine qk (ρ:=ρ) rfl ?_;unfold zv;rcases h with ⟨t,ht,rfl,hk⟩|h
 ·refine(px (ρ':=ρ) ((qz (ρ':=ρ) (rb (pz (ds:=[.str f,.str t.n]) rfl (Ej hf (aO _ (MI g ht)))))).trans rfl)).trans (qa ?_);refine(qj (pT (pz (ρ1:=ρ) (ds:=[w10 T M dk W V,.str t.n]) rfl (nmd g ht)) rfl rfl)).trans ((I0 (pz (ρ1:=ρ) (ds:=[w10 T M dk W V,.str t.n,.str Kd.room.s]) rfl (PN g ht .room))).trans ?_);rw[aN hk];rfl
 ·exact p9 ((pR (ρ':=ρ) (rb (pz (ds:=[.str f,.str x]) rfl (Fc h)))).trans rfl)
def Mt(T:List Th)(M:List Mk)(f:Str)(q:Str×Int):Prop:=q∈mP T M\/(By f q.1/\q.2<=3)
theorem Vo(g:Good T M dk W)(h:q∈mP T M):q.1∈nmL:=by
 refine g.nm _ ?_;have h1:q.1∈mkN T M:=by rw[<-ME];exact bM h
 rcases aQ.mp h1 with h1|h1
 ·obtain⟨t,ht,e⟩:=az.mp h1;exact bg _ (by rw[<-e];exact bM (bp.mp ht).1)
 ·exact aZ _ h1
theorem zd(g:Good T M dk W)(hf:f∈fms)(h:Mt T M f q){v:Int}(h0:0<=v)(h1:v<=q.2):sO [w10 T M dk W V,.str f,.str q.1,.int v]=some (.bl true):=by
 let ρ:List Sl:=[.im (w10 T M dk W V),.im (.str f),.im (.str q.1),.im (.int v),.un];have c0:cT (c2 Bx (cV 3) (cC (.int 0))) ρ=some (false,ρ):=by show some (decide (v<0),ρ)=_;rw[aN (by omega)]
 have i0:sIf (tL (rO (cT (pC vn (a1 (cV 3))))) (cT (c2 Bx (cV 3) (cC (.int 0))))) (pU (cC (.bl false))) pQ ρ=some (.nx ρ):=(qz (ρ':=ρ) (vV (ρ1:=ρ) (zS (b:=true) (rb (pz (ds:=[.int v]) rfl (by kernel_rfl)))) c0)).trans rfl;rcases h with h|⟨h,h3⟩
 ·let σ:List Sl:=[.im (w10 T M dk W V),.im (.str f),.im (.str q.1),.im (.int v),.im (.int q.2)];refine qk (ρ:=σ) rfl ?_;unfold sN;refine(px i0).trans ((px (ρ':=ρ) ((qz (ρ':=ρ) (rb (pz (ds:=[.str f,.str q.1]) rfl (Ej hf (aO _ (Vo g h)))))).trans rfl)).trans ?_);have e1:cIf (cT (c1 (qC (qU "str")) (cV 2))) (qB uh "most_of" (cV 0) (a1 (cV 2))) (cC D.non) ρ=some (.int q.2,ρ):=by refine(Gq (ρ1:=ρ) rfl).trans ?_;exact rE (hh:=sM) (ys:=[.str q.1]) (ρ1:=ρ) (ρ2:=ρ) rfl rfl rfl rfl (Vn g h)
  refine(px (ρ':=σ) ((pO e1).trans rfl)).trans (qa ((qj (ρ1:=σ) rfl).trans (IZ (x:=v) (y:=q.2) rfl rfl h1)))
 ·refine qk (ρ:=ρ) rfl ?_;unfold sN;refine(px i0).trans (p9 ((pR (ρ':=ρ) (rb (pz (ds:=[.str f,.str q.1]) rfl (Fc h)))).trans (qa (IZ (x:=v) (y:=3) rfl rfl (by omega)))))
def atO(a b:Str):L4.D:=.obj 3 ["term", "place"] [.str a,.str b]
def hsO(a:Str):L4.D:=.obj 4 ["term"] [.str a]
def seO(a:Str):L4.D:=.obj 5 ["term"] [.str a]
def mkO(a:Str)(v:Int):L4.D:=.obj 6 ["term", "value"] [.str a,.int v]
def kiO(a k:Str):L4.D:=.obj 7 ["term", "kind"] [.str a,.str k]
def woO(a:Str):L4.D:=.obj 8 ["word"] [.str a]
def noO(d:L4.D):L4.D:=.obj 9 ["inner"] [d]
def boO(d e:L4.D):L4.D:=.obj 10 ["one", "other"] [d,e]
def mvO(a b:Str):L4.D:=.obj 11 ["term", "place"] [.str a,.str b]
def puO(a:Str)(v:Int):L4.D:=.obj 12 ["term", "value"] [.str a,.int v]
def liO:L4.D:=.obj 15 [] []
def Tk(w:L4.D)(f:Str)(n:Nat)(d:L4.D):Prop:=noC 16 14 d=true/\∀j:Nat,n<j->j<=4->tD j [w,.str f,d,.int j]=some (.bl true)
theorem MJ{w:L4.D}{s1:Sl}(j:Nat):sIf (cT (c2 (dEq false) (cV 3) (cC (.int 0)))) (pU (cC (.bl false))) pQ [.im w,s1,s2,.im (.int ((j+1:Nat):Int))]=some (.nx [.im w,s1,s2,.im (.int ((j+1:Nat):Int))]):=
 (qz (rb (pT (x:=.int ((j+1:Nat):Int)) (y:=.int 0) rfl rfl ((uL false _ 0).trans (by rw[aN (by omega:¬((j+1:Nat):Int)=0)];rfl))))).trans rfl
theorem sY{w:L4.D}{n:Nat}(h1:qC Mo d=some (.bl false))(h2:qC Hv d=some (.bl false))(h3:noC 16 14 d=true)(h:uI [w,.str f,d]=some (.bl true)):Tk w f n d:=⟨h3,λj hj _=>by
 obtain⟨j,rfl⟩:∃k,j=k+1:=⟨j - 1,by omega⟩;let ρ:List Sl:=[.im w,.im (.str f),.im d,.im (.int ((j+1:Nat):Int))];refine qk (ρ:=ρ) rfl ?_;unfold tw;exact(px (MJ j)).trans ((px (ρ':=ρ) ((qz (ρ':=ρ) (rb (qv rfl h1))).trans rfl)).trans ((px (ρ':=ρ) ((qz (ρ':=ρ) (rb (qv rfl h2))).trans rfl)).trans (qa (pz (ds:=[w,.str f,d]) rfl h))))⟩
theorem Tx(h:cV 3 ρ=some (.int ((j+1:Nat):Int),ρ)):c2 x8 (cV 3) (cC (.int 1)) ρ=some (.int j,ρ):=(pT h rfl rfl).trans (by
 show some (D.int (((j+1:Nat):Int) - 1),ρ)=_;rw[show ((j+1:Nat):Int) - 1=j by omega])
theorem MK{w:L4.D}{n:Nat}(h:Tk w f n d):Tk w f (n+1) (noO d):=⟨by
 have e:noC 16 14 (noO d)=(noC 16 14 d&&true):=by kernel_rfl
 rw[e,h.1];rfl,λj hj h4=>by
 obtain⟨j,rfl⟩:∃k,j=k+1:=⟨j - 1,by omega⟩;let ρ:List Sl:=[.im w,.im (.str f),.im (noO d),.im (.int ((j+1:Nat):Int))];refine qk (ρ:=ρ) rfl ?_;unfold tw;refine(px (MJ j)).trans (p9 ((pR (ρ':=ρ) rfl).trans (qa ?_)));exact pz (ds:=[w,.str f,d,.int j]) (pB rfl (pB rfl (pB rfl (pB (Tx rfl) rfl)))) (h.2 j (by omega) (by omega))⟩
theorem Kc{w e:L4.D}{n:Nat}(h:Tk w f n d)(h':Tk w f n e):Tk w f (n+1) (boO d e):=⟨by
 have q:noC 16 14 (boO d e)=(noC 16 14 d&&(noC 16 14 e&&true)):=by kernel_rfl
 rw[q,h.1,h'.1];rfl,λj hj h4=>by
 obtain⟨j,rfl⟩:∃k,j=k+1:=⟨j - 1,by omega⟩;let ρ:List Sl:=[.im w,.im (.str f),.im (boO d e),.im (.int ((j+1:Nat):Int))];refine qk (ρ:=ρ) rfl ?_;unfold tw;refine(px (MJ j)).trans ((px (ρ':=ρ) ((qz (ρ':=ρ) rfl).trans rfl)).trans (p9 ((pR (ρ':=ρ) rfl).trans (qa ((qj (ρ1:=ρ) ?_).trans ?_)))))
 ·exact pz (ds:=[w,.str f,d,.int j]) (pB rfl (pB rfl (pB rfl (pB (Tx rfl) rfl)))) (h.2 j (by omega) (by omega))
 ·exact pz (ds:=[w,.str f,e,.int j]) (pB rfl (pB rfl (pB rfl (pB (Tx rfl) rfl)))) (h'.2 j (by omega) (by omega))⟩
end
variable{a:Str}
section
variable{T:List Th}{M:List Mk}{dk:List Str}{W:List Wy}{V:List Vb}{f:Str}{n:Nat}
theorem Vp(g:Good T M dk W)(hf:f∈fms){b:Str}(ha:Tm f (T.map Th.n) a)(hb:Tm f (hdN T) b):Tk (w10 T M dk W V) f n (atO a b):=sY rfl rfl rfl (by
 let ρ:List Sl:=[.im (w10 T M dk W V),.im (.str f),.im (atO a b)];refine qk (ρ:=ρ) rfl ?_;unfold qH;exact p9 ((pR (ρ':=ρ) rfl).trans (qa ((qj (pz (ρ1:=ρ) (ds:=[w10 T M dk W V,.str f,.str a]) rfl (xH g hf ha))).trans (pz (ds:=[w10 T M dk W V,.str f,.str b]) rfl (Bs g hf hb))))))
theorem pW{e:FS}{h:FS}(q:c ρ=some (false,ρ)):pA (sIf c e pQ) h ρ=h ρ:=px ((qz q).trans rfl)
theorem Tz(g:Good T M dk W)(hf:f∈fms)(ha:Tm f (T.map Th.n) a):Tk (w10 T M dk W V) f n (hsO a):=sY rfl rfl rfl (by
 let ρ:List Sl:=[.im (w10 T M dk W V),.im (.str f),.im (hsO a)];refine qk (ρ:=ρ) rfl ?_;unfold qH;exact(pW (ρ:=ρ) rfl).trans (p9 ((pR (ρ':=ρ) rfl).trans (qa (pz (ds:=[w10 T M dk W V,.str f,.str a]) rfl (xH g hf ha))))))
theorem O6(g:Good T M dk W)(hf:f∈fms)(ha:Tm f (T.map Th.n) a):Tk (w10 T M dk W V) f n (seO a):=sY rfl rfl rfl (by
 let ρ:List Sl:=[.im (w10 T M dk W V),.im (.str f),.im (seO a)];refine qk (ρ:=ρ) rfl ?_;unfold qH;exact(pW (ρ:=ρ) rfl).trans (p9 ((pR (ρ':=ρ) rfl).trans (qa (pz (ds:=[w10 T M dk W V,.str f,.str a]) rfl (xH g hf ha))))))
theorem O7(g:Good T M dk W)(hf:f∈fms)(h:Mt T M f q){v:Int}(h0:0<=v)(h1:v<=q.2):Tk (w10 T M dk W V) f n (mkO q.1 v):=sY rfl rfl rfl (by
 let ρ:List Sl:=[.im (w10 T M dk W V),.im (.str f),.im (mkO q.1 v)];refine qk (ρ:=ρ) rfl ?_;unfold qH;exact(pW (ρ:=ρ) rfl).trans ((pW (ρ:=ρ) rfl).trans (p9 ((pR (ρ':=ρ) rfl).trans (qa (pz (ds:=[w10 T M dk W V,.str f,.str q.1,.int v]) rfl (zd g hf h h0 h1)))))))
theorem O8(g:Good T M dk W)(hf:f∈fms){k:Str}(ha:Tm f (T.map Th.n) a)(hk:k∈(["plain", "fixed", "box", "lamp", "room", "you"]:List Str)):Tk (w10 T M dk W V) f n (kiO a k):=sY rfl rfl rfl (by
 let ρ:List Sl:=[.im (w10 T M dk W V),.im (.str f),.im (kiO a k)];refine qk (ρ:=ρ) rfl ?_;unfold qH;have ek:ql [.str k,xi]=some (.bl true):=xG (aE.mp (show ((["plain", "fixed", "box", "lamp", "room", "you"]:List Str).all λx=>isT (ql [.str x,xi]))=true by kernel_rfl) k hk);exact(pW (ρ:=ρ) rfl).trans ((pW (ρ:=ρ) rfl).trans ((pW (ρ:=ρ) rfl).trans (p9 ((pR (ρ':=ρ) rfl).trans (qa ((qj (pz (ρ1:=ρ) (ds:=[w10 T M dk W V,.str f,.str a]) rfl (xH g hf ha))).trans (pz (ds:=[.str k,xi]) rfl ek))))))))
theorem O9{w:L4.D}(hx:x∈(["north", "up", "outside", "down"]:List Str)):Tk w "way" n (woO x):=sY rfl rfl rfl (by
 let ρ:List Sl:=[.im w,.im (.str "way"),.im (woO x)];refine qk (ρ:=ρ) rfl ?_;unfold qH;have ek:sC [.str x]=some (.bl true):=xG (aE.mp (show ((["north", "up", "outside", "down"]:List Str).all λx=>isT (sC [.str x]))=true by kernel_rfl) x hx);exact(pW (ρ:=ρ) rfl).trans ((pW (ρ:=ρ) rfl).trans ((pW (ρ:=ρ) rfl).trans ((pW (ρ:=ρ) rfl).trans (p9 ((pR (ρ':=ρ) rfl).trans (qa ((qj (ρ1:=ρ) rfl).trans (pz (ds:=[.str x]) rfl ek)))))))))
theorem ML{w:L4.D}:Tk w f n liO:=sY rfl rfl rfl (by kernel_rfl)
def Dd(w:L4.D)(f:Str)(d:L4.D):Prop:=noC 16 14 d=true/\AM [w,.str f,d]=some (.bl true)
theorem TB(g:Good T M dk W)(hf:f∈fms)(h:Mt T M f q){v:Int}(h0:0<=v)(h1:v<=q.2):Dd (w10 T M dk W V) f (puO q.1 v):=⟨rfl,by
 let ρ:List Sl:=[.im (w10 T M dk W V),.im (.str f),.im (puO q.1 v)];refine qk (ρ:=ρ) rfl ?_;unfold yR;exact p9 ((pR (ρ':=ρ) rfl).trans (qa (pz (ds:=[w10 T M dk W V,.str f,.str q.1,.int v]) rfl (zd g hf h h0 h1))))⟩
theorem Jd(g:Good T M dk W)(hf:f∈fms){b:Str}(ha:Mv T f a)(hb:Tm f (hdN T) b)(hm:a="me" -> ∃t∈T,t.n=b/\t.k=.room):Dd (w10 T M dk W V) f (mvO a b):=⟨rfl,by
 let ρ:List Sl:=[.im (w10 T M dk W V),.im (.str f),.im (mvO a b)];have e:AL [w10 T M dk W V,.str f,mvO a b]=some (.bl true):=by
  refine qk (ρ:=ρ) rfl ?_;unfold AK;refine(pW (ρ:=ρ) (vV (ρ1:=ρ) (zS (b:=true) (rb (pz (ds:=[w10 T M dk W V,.str f,.str a]) rfl (Gr g hf ha)))) (zS (b:=true) (rb (pz (ds:=[w10 T M dk W V,.str f,.str b]) rfl (Bs g hf hb)))))).trans (qa ?_);have en:c2 (dEq true) (c1 (pG tQ "term") (cV 2)) (qB yQ "you" (cV 0) qe) ρ=some (.bl (!decide (a="me")),ρ):=pT (x:=.str a) (y:=.str "me") rfl rfl (BJ true a "me");by_cases h:a="me"
  ·obtain⟨t,ht,e1,e2⟩:=hm h;rw[aR h]at en;refine(Al en).trans (pz (ds:=[w10 T M dk W V,.str b,.str Kd.room.s]) rfl ?_);rw[<-e1,PN g ht .room,aR e2]
  ·rw[aN h]at en;exact Fb en
 refine qk (ρ:=ρ) rfl ?_;unfold yR;exact(pW (ρ:=ρ) rfl).trans (qa ((qj (ρ1:=ρ) rfl).trans (pz (ds:=[w10 T M dk W V,.str f,mvO a b]) rfl e)))⟩
end
theorem uu(T:List Th)(hl:T.length<=900)(ks:List Str)(p:Kd->Bool)(hp:∀k:Kd,decide (k.s∈ks)=p k):pS [TD T,.lst (ks.map D.str)]=some (((T.filter λt=>p t.k).map Th.n).map D.str):=by let K:L4.D:=.lst (ks.map D.str);let ρ:List Sl:=[.im (TD T),.im K];refine(vc (ρ:=ρ) rfl (se (uf thD (λt=>D.str t.n) (λt=>p t.k) T (ρ1:=ρ) rfl (by omega) λt _=>⟨[.im (thD t),.im K],[.im (thD t),.im K],rfl,rb (pT (x:=.str t.k.s) (y:=K) rfl rfl ((ve false _ _).trans (by rw[<-hp t.k];rfl))),λ_=>⟨_,qv rfl (vB t),rfl⟩,λ_=>rfl⟩))).trans ?_;rw[aJ];rfl
theorem AR{P:Kd->Prop}(h1:P .room)(h2:P .you)(h3:P .plain)(h4:P .fixed)(h5:P .box)(h6:P .lamp):∀k,P k:=λk=>by cases k<;>assumption
theorem HF:∀k:Kd,decide (k.s∈(["room"]:List Str))=decide (k=.room):=AR rfl rfl rfl rfl rfl rfl
theorem MM:∀k:Kd,decide (k.s∈(["room", "box", "you"]:List Str))=k.hd:=AR rfl rfl rfl rfl rfl rfl
theorem MN:∀k:Kd,decide (k.s∈(["box", "lamp"]:List Str))=k.mk:=AR rfl rfl rfl rfl rfl rfl
theorem VZ:∀k:Kd,decide (k.s∈(["plain", "fixed", "box", "lamp"]:List Str))=k.pl:=AR rfl rfl rfl rfl rfl rfl
theorem eq_nil{l:List L3.Dq}(h:um ds=some l)(hd:qX l<=19):dEq false (.lst ds) (.lst [])=some (.bl (decide (ds=[]))):=by
 cases ds with
 |nil=>rfl
 |cons x xs=>
  rw[aN (List.cons_ne_nil x xs)];obtain⟨y,ys,rfl⟩:∃y ys,l=y::ys:=by
   unfold um at h;split at h
   ·split at h
    ·cases h;exact⟨_,_,rfl⟩
    ·cases h
   ·cases h
  have e0:EM false (.lst (x::xs)) (.lst [])=none:=rfl;have e1:toD (.lst (x::xs))=some (.lst (y::ys)):=by unfold toD;rw[h]
  have e3:dpt (.lst (y::ys))<=20:=by rw[dpt];omega
  unfold dEq;rw[e0];show JP false _ _=_;unfold JP;rw[e1,show toD (.lst [])=some (.lst []) from rfl];show (if KU (.lst (y::ys)) (.lst [])&&decide (dpt (.lst (y::ys))<=20)&&decide (dpt (.lst [])<=20)then some (D.bl (eqD (.lst (y::ys)) (.lst [])))else none)=_;rw[aR e3];rfl
theorem AS:∀l:List Str,um (l.map D.str)=some (l.map L3.Dq.str)/\qX (l.map L3.Dq.str)=0
 |[]=>⟨rfl,rfl⟩
 |x::l=>by obtain⟨h1,h2⟩:=AS l;rw[aG,aG];refine⟨by unfold um;rw[h1];rfl,by unfold qX;rw[h2];unfold dpt;rfl⟩
def pD(q:Str×Int):L4.D:=.tup [.str q.1,.int q.2]
theorem Gs:∀l:List (Str×Int),∃m,um (l.map pD)=some m/\qX m<=1
 |[]=>⟨[],rfl,by decide⟩
 |x::l=>by obtain⟨m,h1,h2⟩:=Gs l;refine⟨.tup [.str x.1,.int x.2]::m,by rw[aG];unfold um;rw[h1];rfl,?_⟩;unfold qX;exact ng.mpr ⟨aC 1,h2⟩
theorem MO(h:qp es)(a b:Sl)(L:List L4.D)(h0:L≠[])(h1:L.length<=1000):∃d∈L,∃es',(pU (c2 dIx (cV 3) (p8 pq 0 (a1 (c1 qR (cV 3)))))) [.pm es,a,b,.im (.lst L)]=some (.rt d [.pm es',a,b,.im (.lst L)])/\qp es':=by obtain⟨d,hd,es',e,q⟩:=pk (i:=0) (e:=cV 3) (a:=c1 qR (cV 3)) (L:=L) (λes=>[.pm es,a,b,.im (.lst L)]) (λ_=>rfl) (λ_ _=>rfl) rfl rfl h h0 h1;exact⟨d,hd,es',qa e,q⟩
theorem Je(h:qp es)(hf:f∈fms)(N:List Str)(hl:N.length<=100):∃x es',qW es [.str f,.lst (N.map D.str)]=some (.str x,es')/\qp es'/\Tm f N x:=by
 let A:List L4.D:=N.map D.str;have lA:A.length<=100:=by show (N.map D.str).length<=100;rw[af];exact hl
 let L0:List L4.D:=A++[.str "here"];let L1:List L4.D:=L0++[.str "it", .str "it"];let L2:List L4.D:=L1++[.str "other", .str "other"];have l0:L0.length<=101:=by show (A++_).length<=101;rw[au];show A.length+1<=101;omega
 have l1:L1.length<=103:=by show (L0++_).length<=103;rw[au];show L0.length+2<=103;omega
 have l2:L2.length<=105:=by show (L1++_).length<=105;rw[au];show L1.length+2<=105;omega
 have m0:∀{f},∀d∈L0,∃x,d=.str x/\Tm f N x:=λd hd=>by
  rcases aQ.mp hd with hd|hd
  ·obtain⟨x,hx,rfl⟩:=az.mp hd;exact⟨x,rfl,.inl hx⟩
  ·exact⟨"here", aX.mp hd,.inr (.inl rfl)⟩
 have m1:∀{f},f∈(["one", "two"]:List Str)->∀d∈L1,∃x,d=.str x/\Tm f N x:=λhf d hd=>by
  rcases aQ.mp hd with hd|hd
  ·exact m0 d hd
  ·refine⟨"it", ?_,.inr (.inr (.inl ⟨rfl,hf⟩))⟩;simpa using hd
 have m2:∀d∈L2,∃x,d=.str x/\Tm "two" N x:=λd hd=>by
  rcases aQ.mp hd with hd|hd
  ·exact m1 (by simp) d hd
  ·refine⟨"other", ?_,.inr (.inr (.inr ⟨rfl,rfl⟩))⟩;simpa using hd
 have s0:∀F:Sl,p6 3 (cL (qS (cV 2) (cL (pN (a1 (cS "here")))))) [.pm es,F,.im (.lst A),.un]=some (.nx [.pm es,F,.im (.lst A),.im (.lst L0)]):=λF=>(pO (qu (qP (xs:=A) (ys:=[.str "here"]) (ρ1:=[.pm es,F,.im (.lst A),.un]) rfl rfl (by show A.length+1<=1000;omega)))).trans rfl;have s1:∀F:Sl,p6 3 (cL (qS (cV 3) (cL (pN (aCons (cS "it") (a1 (cS "it"))))))) [.pm es,F,.im (.lst A),.im (.lst L0)]=some (.nx [.pm es,F,.im (.lst A),.im (.lst L1)]):=λF=>(pO (qu (qP (xs:=L0) (ys:=[.str "it", .str "it"]) (ρ1:=[.pm es,F,.im (.lst A),.im (.lst L0)]) rfl rfl (by show L0.length+2<=1000;omega)))).trans rfl;have fin:∀(F:Sl) (L:List L4.D),(∀d∈L,∃x,d=.str x/\Tm f N x)->L≠[]->L.length<=1000->(sv [.pm es,F,.im (.lst A),.un]=(pU (c2 dIx (cV 3) (p8 pq 0 (a1 (c1 qR (cV 3)))))) [.pm es,F,.im (.lst A),.im (.lst L)])->(.im (.str f)=F)->∃x es',qW es [.str f,.lst (N.map D.str)]=some (.str x,es')/\qp es'/\Tm f N x:=λF L hm h0 hL e eF=>by obtain⟨d,hd,es',e2,q⟩:=MO h F (.im (.lst A)) L h0 hL;obtain⟨x,rfl,hx⟩:=hm d hd;subst eF;exact⟨x,es',vX (ρ:=[.pm es',.im (.str f),.im (.lst A),.im (.lst L)]) rfl (e.trans e2) rfl,q,hx⟩
 have n0:∀(X:List L4.D) (y:L4.D) (Y:List L4.D),X++y::Y≠[]:=λX y Y=>by simp
 simp only[fms,aH,bX,or_false]at hf;rcases hf with rfl|rfl|rfl|rfl
 ·refine fin _ L1 (m1 (by simp)) (n0 _ _ _) (by omega) ?_ rfl;unfold sv;exact(px (s0 _)).trans ((px ((pR rfl).trans (s1 _))).trans (pW rfl))
 ·refine fin _ L2 m2 (n0 _ _ _) (by omega) ?_ rfl;unfold sv;refine(px (s0 _)).trans ((px ((pR rfl).trans (s1 _))).trans (px ((pR (ρ':=[.pm es,.im (.str "two"),.im (.lst A),.im (.lst L1)]) rfl).trans ?_)));exact(pO (qu (qP (xs:=L1) (ys:=[.str "other", .str "other"]) (ρ1:=[.pm es,.im (.str "two"),.im (.lst A),.im (.lst L1)]) rfl rfl (by show L1.length+2<=1000;omega)))).trans rfl
 ·refine fin _ L0 m0 (n0 _ _ _) (by omega) ?_ rfl;unfold sv;exact(px (s0 _)).trans ((pW rfl).trans (pW rfl))
 ·refine fin _ L0 m0 (n0 _ _ _) (by omega) ?_ rfl;unfold sv;exact(px (s0 _)).trans ((pW rfl).trans (pW rfl))
theorem ixs{L:List L4.D}(h:qp es)(h0:L≠[])(hl:L.length<=1000)(hi:q9 ρ i=some es)(hj:q9 ρ j=some L)(hb:cV j (ρ.map Sl.bor)=some (.lst L,ρ.map Sl.bor))(hne:∀es',q9 (putAt ρ i es') j=some L):
  ∃d∈L,∃es',qp es'/\EK j (p8 pq i (a1 (vb (c1 qR (cV j))))) ρ=some (d,putAt ρ i es'):=by
 have hp:0<L.length:=kz.mpr h0;obtain⟨r,es',h4,h2,h3,h1⟩:=Gi h (b:=L.length) (by omega) (by omega);obtain⟨m,rfl⟩:=bL h2;have hm:m<L.length:=by omega
 refine⟨L[m],dX hm,es',h1,?_⟩;have e1:vb (c1 qR (cV j)) ρ=some (.int L.length,ρ):=Cg (qv hb rfl) rfl;have e2:p8 pq i (a1 (vb (c1 qR (cV j)))) ρ=some (.int m,putAt ρ i es'):=sR hi (pB e1 rfl) hi h4;unfold EK;rw[hj];simp only[e2,hne es'];rw[show atI L (m:Int)=some L[m] from zG (aY hm)]
def mE:FS:=(pA (sIf (uo (cT (c2 (dEq false) (cV 4) (cL (pN qe))))) (pU (cC D.non)) pQ)
 (pU (EK 4 (p8 pq 0 (a1 (vb (c1 qR (cV 4))))))))
theorem Vq(h:qp es)(a b c:Sl)(L:List (Str×Int))(hl:L.length<=1000):∃r es' s,mE [.pm es,a,b,c,.ls (L.map pD)]=some (.rt r [.pm es',a,b,c,s])/\qp es'/\(r=.non\/∃q∈L,r=pD q):=by
 let ρ:List Sl:=[.pm es,a,b,c,.ls (L.map pD)];obtain⟨m,t1,t2⟩:=Gs L;have et:uo (cT (c2 (dEq false) (cV 4) (cL (pN qe)))) ρ=some (decide (L.map pD=[]),ρ):=EO (rb (pT (x:=.lst (L.map pD)) (y:=.lst []) rfl rfl (eq_nil t1 (by omega))));unfold mE;by_cases h0:L.map pD=[]
 ·rw[aR h0]at et;exact⟨.non,es,_,p9 ((pR et).trans rfl),h,.inl rfl⟩
 ·rw[aN h0]at et;obtain⟨d,hd,es',q,e⟩:=ixs (ρ:=ρ) (i:=0) (j:=4) h h0 (by rw[af];exact hl) rfl rfl rfl (λ_=>rfl);obtain⟨q',hq,rfl⟩:=az.mp hd;exact⟨pD q',es',_,(pW et).trans (qa e),q,.inr ⟨q',hq,rfl⟩⟩
section
variable{T:List Th}{M:List Mk}{dk:List Str}{W:List Wy}{V:List Vb}{f:Str}{es:List L4.D}
theorem Am(g:Good T M dk W)(hf:f∈fms)(h:qp es):∃r es',qK es [.str f,TD T,MD M]=some (r,es')/\qp es'/\(r=.non\/∃q:Str×Int,r=pD q/\Mt T M f q/\0<=q.2/\q.2<=3):=by
 have hl:=g.len;have hm4:=g.m4;let K:=T.filter λt=>t.k.mk;have lK:K.length<=13:=bc (b9 _ _) hl;let L0:List (Str×Int):=M.map (λm=>(m.n,m.mo))++K.map λt=>(t.n,1);have l0:L0.length<=17:=by show (cg (_++_))<=17;rw[au,af,af];omega
 let A:Sl:=.im (TD T);let B:Sl:=.im (MD M);have ok0:∀{f},∀q∈L0,Mt T M f q/\0<=q.2/\q.2<=3:=λq hq=>by
  rcases aQ.mp hq with hq|hq
  ·obtain⟨m,hm,rfl⟩:=az.mp hq;obtain⟨h1,h2,_⟩:=g.mo m hm;exact⟨.inl (aZ _ (az.mpr ⟨m,hm,rfl⟩)),by show 0<=m.mo;omega,h2⟩
  ·obtain⟨t,ht,rfl⟩:=az.mp hq;exact⟨.inl (bg _ (az.mpr ⟨t,ht,rfl⟩)),(by decide:(0:Int)<=1),(by decide:(1:Int)<=3)⟩
 have s0:∀F:Sl,qT 4 (qS (cL (pH 1 [] (iL (cV 3)) (gN 0) qg (qd (aCons (c1 (pG pI "name") (cV 0)) (a1 (c1 (pG sI "most") (cV 0))))))) (cL (pH 1 [] (iL (cL (qh pS (aCons (cV 2) (a1 (cL (pN (aCons (cS "box") (a1 (cS "lamp")))))))))) (gN 0) qg (qd (aCons (cV 0) (a1 (cC (.int 1)))))))) [.pm es,F,A,B,.un]=some (.nx [.pm es,F,A,B,.ls (L0.map pD)]):=λF=>by
  let ρ:List Sl:=[.pm es,F,A,B,.un];have c1':cL (pH 1 [] (iL (cV 3)) (gN 0) qg (qd (aCons (c1 (pG pI "name") (cV 0)) (a1 (c1 (pG sI "most") (cV 0)))))) ρ=some (.lst (M.map λm=>pD (m.n,m.mo)),ρ):=qu (rQ mkD (λm=>pD (m.n,m.mo)) M rfl (by omega) λm _=>⟨[.im (mkD m)],[.im (mkD m)],rfl,rfl,rfl⟩);have c2':cL (pH 1 [] (iL (cL (qh pS (aCons (cV 2) (a1 (cL (pN (aCons (cS "box") (a1 (cS "lamp")))))))))) (gN 0) qg (qd (aCons (cV 0) (a1 (cC (.int 1)))))) ρ=some (.lst (K.map λt=>pD (t.n,1)),ρ):=by refine(qu (rQ D.str (λx=>pD (x,1)) (K.map Th.n) (ρ1:=ρ) ?_ (by rw[af];omega) λx _=>⟨[.im (.str x)],[.im (.str x)],rfl,rfl,rfl⟩)).trans (by rw[aJ];rfl);unfold iL;rw[qu (pz (g:=pS) (ds:=[TD T,.lst ((["box", "lamp"]:List Str).map D.str)]) (ρ1:=ρ) rfl (uu T (by omega) ["box", "lamp"] Kd.mk MN))]
  refine(xa (qP c1' c2' (by rw[af,af];omega))).trans ?_;show some (Out.nx [.pm es,F,A,B,.ls (M.map (λm=>pD (m.n,m.mo))++K.map λt=>pD (t.n,1))])=_;rw[show L0.map pD=M.map (λm=>pD (m.n,m.mo))++K.map λt=>pD (t.n,1) by show cn pD (_++_)=_;rw[aS,aJ,aJ];rfl]
 let L1:List (Str×Int):=L0++([("it", 3),("it", 1)]:List (Str×Int));have l1:L1.length<=19:=by show (L0++_).length<=19;rw[au];show L0.length+2<=19;omega
 have s1:∀F:Sl,qT 4 (qS (cFz 4) (cL (pN (aCons (qd (aCons (cS "it") (a1 (cC (.int 3))))) (a1 (qd (aCons (cS "it") (a1 (cC (.int 1)))))))))) [.pm es,F,A,B,.ls (L0.map pD)]=some (.nx [.pm es,F,A,B,.ls (L1.map pD)]):=λF=>by refine(xa (qP (xs:=L0.map pD) (ys:=[pD ("it", 3),pD ("it", 1)]) (ρ1:=[.pm es,F,A,B,.im (.lst (L0.map pD))]) rfl rfl (by rw[af];show L0.length+2<=1000;omega))).trans ?_;show some (Out.nx [.pm es,F,A,B,.ls (L0.map pD++[pD ("it", 3),pD ("it", 1)])])=_;rw[show L1.map pD=L0.map pD++[pD ("it", 3),pD ("it", 1)] by show cn pD (_++_)=_;rw[aS];rfl]
 have ok1:∀{f},f∈(["one", "two"]:List Str)->∀q∈L1,Mt T M f q/\0<=q.2/\q.2<=3:=λhf q hq=>by
  rcases aQ.mp hq with hq|hq
  ·exact ok0 q hq
  ·simp only[aH,bX,or_false]at hq;rcases hq with rfl|rfl
   ·exact⟨.inr ⟨.inl ⟨rfl,hf⟩,by decide⟩,by decide,by decide⟩
   ·exact⟨.inr ⟨.inl ⟨rfl,hf⟩,by decide⟩,by decide,by decide⟩
 let L2:List (Str×Int):=L1++([("other", 3)]:List (Str×Int));have l2:L2.length<=20:=by show (L1++_).length<=20;rw[au];show L1.length+1<=20;omega
 have fin:∀L:List (Str×Int),(∀q∈L,Mt T M f q/\0<=q.2/\q.2<=3)->L.length<=1000->(qJ [.pm es,.im (.str f),A,B,.un]=mE [.pm es,.im (.str f),A,B,.ls (L.map pD)])->∃r es',qK es [.str f,TD T,MD M]=some (r,es')/\qp es'/\(r=.non\/∃q:Str×Int,r=pD q/\Mt T M f q/\0<=q.2/\q.2<=3):=λL hm hL e=>by
  obtain⟨r,es',s,e2,q,hr⟩:=Vq h (.im (.str f)) A B L hL;refine⟨r,es',vX (ρ:=[.pm es',.im (.str f),A,B,s]) rfl (e.trans e2) rfl,q,?_⟩;rcases hr with rfl|⟨q',hq,rfl⟩
  ·exact .inl rfl
  ·exact .inr ⟨q',rfl,hm q' hq⟩
 simp only[fms,aH,bX,or_false]at hf;rcases hf with rfl|rfl|rfl|rfl
 ·refine fin L1 (ok1 (by simp)) (by omega) ?_;unfold qJ;exact(px (s0 _)).trans ((px ((pR rfl).trans (s1 _))).trans (pW rfl))
 ·refine fin L2 (λq hq=>?_) (by omega) ?_
  ·rcases aQ.mp hq with hq|hq
   ·exact ok1 (by simp) q hq
   ·rw[aX.mp hq];exact⟨.inr ⟨.inr ⟨rfl,rfl⟩,by decide⟩,by decide,by decide⟩
  ·unfold qJ;refine(px (s0 _)).trans ((px ((pR rfl).trans (s1 _))).trans (px ((pR (ρ':=[.pm es,.im (.str "two"),A,B,.ls (L1.map pD)]) rfl).trans ((qF (yb (es0:=L1.map pD) (es:=L1.map pD) (ρ1:=[.pm es,.im (.str "two"),A,B,.ls (L1.map pD)]) (d:=pD ("other", 3)) rfl rfl rfl (by rw[af];omega))).trans ?_))));show some (Out.nx [.pm es,.im (.str "two"),A,B,.ls (L1.map pD++[pD ("other", 3)])])=_;rw[show L2.map pD=L1.map pD++[pD ("other", 3)] by show cn pD (_++_)=_;rw[aS];rfl]
 ·refine fin L0 ok0 (by omega) ?_;unfold qJ;exact(px (s0 _)).trans ((pW rfl).trans (pW rfl))
 ·refine fin L0 ok0 (by omega) ?_;unfold qJ;exact(px (s0 _)).trans ((pW rfl).trans (pW rfl))
theorem MP(h:qp es)(a b c:Sl)(s:List Sl)(q:Str×Int)(h0:0<=q.2)(h3:q.2<=3):∃v es',p8 pq 0 (a1 (c2 qO (c2 dIx (cV 4) (cC (.int 1))) (cC (.int 1)))) (.pm es::a::b::c::.im (pD q)::s)=some (.int v,.pm es'::a::b::c::.im (pD q)::s)/\qp es'/\0<=v/\v<=q.2:=by obtain⟨d,es',e,q1,q2,q3⟩:=dgx (i:=0) (b:=q.2+1) (a:=c2 qO (c2 dIx (cV 4) (cC (.int 1))) (cC (.int 1))) (λes=>.pm es::a::b::c::.im (pD q)::s) (λ_=>rfl) (λ_ _=>rfl) rfl h (by omega) (by omega);exact⟨d,es',e,q3,q1,by omega⟩
theorem Ke(g:Good T M dk W)(hf:f∈fms)(h:qp es):∃d es',wu es [.str f,TD T,MD M]=some (d,es')/\qp es'/\∀n,Tk (w10 T M dk W V) f n d:=by
 obtain⟨r,e1,x1,h1,hr⟩:=Am g hf h;let F:Sl:=.im (.str f);let A:Sl:=.im (TD T);let B:Sl:=.im (MD M);have s0:p6 4 (p8 qK 0 (aCons (cV 1) (aCons (cV 2) (a1 (cV 3))))) [.pm es,F,A,B,.un]=some (.nx [.pm e1,F,A,B,.im r]):=(pO (sR (es0:=es) (es:=es) (ds:=[.str f,TD T,MD M]) (ρ1:=[.pm es,F,A,B,.un]) rfl rfl rfl x1)).trans rfl;rcases hr with rfl|⟨q,rfl,hq,q0,q3⟩
 ·refine⟨liO,e1,vX (ρ:=[.pm e1,F,A,B,.im .non]) rfl ?_ rfl,h1,λn=>ML⟩;unfold ui;exact(px s0).trans (p9 ((pR rfl).trans rfl))
 ·obtain⟨v,e2,x2,h2,v0,v1⟩:=MP h1 F A B [] q q0 q3;refine⟨mkO q.1 v,e2,vX (ρ:=[.pm e2,F,A,B,.im (pD q)]) rfl ?_ rfl,h2,λn=>O7 g hf hq v0 v1⟩;unfold ui;exact(px s0).trans ((pW rfl).trans (qa (rF (ds:=[.str q.1,.int v]) (pB rfl (pB x2 rfl)) rfl)))
end
section
variable{T:List Th}{M:List Mk}{dk:List Str}{W:List Wy}{V:List Vb}{f:Str}{es:List L4.D}
theorem TC(n:Nat):∃b:Int,(b=8\/(b=10/\∃m,n=m+1))/\∀ρ:List Sl,cV 4 ρ=some (.int (n:Nat),ρ)->c2 qO (cC (.int 8)) (c2 sZ (cC (.int 2)) (c1 zj (c2 Du (cV 4) (cC (.int 0))))) ρ=some (.int b,ρ):=by
 have eg:∀ρ:List Sl,cV 4 ρ=some (.int (n:Nat),ρ)->c2 Du (cV 4) (cC (.int 0)) ρ=some (.bl (decide ((0:Int)<(n:Nat))),ρ):=λρ h=>pT h rfl rfl;cases n with
 |zero=>exact⟨8,.inl rfl,λρ h=>pT (x:=.int 8) (y:=.int 0) rfl (pT (x:=.int 2) (y:=.int 0) rfl (qv (x:=.bl false) (eg ρ h) rfl) rfl) rfl⟩
 |succ m=>exact⟨10,.inr ⟨rfl,m,rfl⟩,λρ h=>pT (x:=.int 8) (y:=.int 2) rfl (pT (x:=.int 2) (y:=.int 1) rfl (qv (x:=.bl true) ((eg ρ h).trans (by rw[aR (by omega)])) rfl) rfl) rfl⟩
theorem HG{es:List L4.D}{c:Int}(L:List Str)(st:List L4.D->List Sl)(hp:∀es,q9 (st es) i=some es)(hq:∀es es',putAt (st es) i es'=st es')(he:e (st es)=some (.lst (L.map D.str),st es))(hs:qp es)(hc:c=L.length)(h0:0<L.length)(h1:L.length<=1000):∃x∈L,∃es',c2 dIx e (p8 pq i (a1 (cC (.int c)))) (st es)=some (.str x,st es')/\qp es':=by subst hc;obtain⟨d,hd,es',e1,q⟩:=pk (L:=L.map D.str) (a:=cC (.int L.length)) st hp hq he (by rw[af];rfl) hs (λz=>by rw[iK]at z;rw[z]at h0;exact ao h0 (dH _)) (by rw[af];exact h1);obtain⟨x,hx,rfl⟩:=az.mp hd;exact⟨x,hx,es',e1,q⟩
theorem Ek(g:Good T M dk W)(hf:f∈fms)(n:Nat)(gf:List L4.D->List L4.D->Option (L4.D×List L4.D))(hg:∀m,n=m+1->∀es,qp es->∃d es',gf es [.str f,TD T,MD M,.int (m:Nat)]=some (d,es')/\qp es'/\Tk (w10 T M dk W V) f m d)(h:qp es):
  ∃d es',fnM 4 10 (qt gf) es [.str f,TD T,MD M,.int (n:Nat)]=some (d,es')/\qp es'/\Tk (w10 T M dk W V) f n d:=by
 have hl:=g.len;let F:Sl:=.im (.str f);let A:Sl:=.im (TD T);let B:Sl:=.im (MD M);let N:Sl:=.im (.int (n:Nat));let P:L4.D:=.lst ((T.map Th.n).map D.str);let H:L4.D:=.lst ((hdN T).map D.str);have lP:(T.map Th.n).length<=100:=by rw[af];omega
 have lH:(hdN T).length<=100:=by unfold hdN;rw[af];exact bc (b9 _ _) (by omega)
 obtain⟨b,hb,eb⟩:=TC n;obtain⟨k,e1,x1,k0,k1,h1⟩:=dgx (i:=0) (a:=c2 qO (cC (.int 8)) (c2 sZ (cC (.int 2)) (c1 zj (c2 Du (cV 4) (cC (.int 0)))))) (b:=b) (λes=>[.pm es,F,A,B,N,.im P,.im H,.un,.un,.un]) (λ_=>rfl) (λ_ _=>rfl) (eb _ rfl) h (by omega) (by omega);let σ:List L4.D->Sl->List Sl:=λes s=>[.pm es,F,A,B,N,.im P,.im H,.im (.int k),s,.un];have pre:∀t:FS,(pA (p6 5 (cL (pH 1 [] (iL (cV 2)) (gN 0) qg (c1 (pG pI "name") (cV 0)))))
   (pA (p6 6 (cL (qh pS (aCons (cV 2) (a1 (cL (pN (aCons (cS "room") (aCons (cS "box") (a1 (cS "you")))))))))))
   (pA (p6 7 (p8 pq 0 (a1 (c2 qO (cC (.int 8)) (c2 sZ (cC (.int 2)) (c1 zj (c2 Du (cV 4) (cC (.int 0))))))))) t)):FS) [.pm es,F,A,B,N,.un,.un,.un,.un,.un]=t (σ e1 .un):=λt=>by
  refine(px (ρ':=[.pm es,F,A,B,N,.im P,.un,.un,.un,.un]) ((pO (qu ((rQ thD (λt=>D.str t.n) T (ρ1:=[.pm es,F,A,B,N,.un,.un,.un,.un,.un]) rfl (by omega) λt _=>⟨[.im (thD t)],[.im (thD t)],rfl,rfl,rfl⟩).trans (by rw[show (T.map λt=>D.str t.n)=(T.map Th.n).map D.str by rw[aJ];rfl])))).trans rfl)).trans ?_;refine(px (ρ':=[.pm es,F,A,B,N,.im P,.im H,.un,.un,.un]) ((pO (qu (pz (g:=pS) (ds:=[TD T,.lst ((["room", "box", "you"]:List Str).map D.str)]) (ρ1:=[.pm es,F,A,B,N,.im P,.un,.un,.un,.un]) rfl (uu T (by omega) ["room", "box", "you"] Kd.hd MM)))).trans rfl)).trans ?_;exact px ((pO x1).trans rfl)
 have tm:∀{es} (i:Nat) (L:List Str) (s:Sl),qp es->L.length<=100->(∀es,cV i (σ es s)=some (.lst (L.map D.str),σ es s))->∃x es',p8 qW 0 (aCons (cV 1) (a1 (cV i))) (σ es s)=some (.str x,σ es' s)/\qp es'/\Tm f L x:=λ{es} i L s h hL hi=>by obtain⟨x,es',e,q,hx⟩:=Je h hf L hL;exact⟨x,es',(sR (es0:=es) (es:=es) (ds:=[.str f,.lst (L.map D.str)]) (ρ1:=σ es s) rfl (pB rfl (pB (hi es) rfl)) rfl e).trans rfl,q,hx⟩
 have lt:∀(c:Int) (s:Sl),cT (c2 Bx (cV 7) (cC (.int c))) (σ e1 s)=some (decide (k<c),σ e1 s):=λc s=>rfl;have eq:∀(c:Int) (s:Sl),cT (c2 (dEq false) (cV 7) (cC (.int c))) (σ e1 s)=some (decide (k=c),σ e1 s):=λc s=>rb (pT (x:=.int k) (y:=.int c) rfl rfl (uL false k c));have fin:∀{d es'} {s s':Sl},(qt gf [.pm es,F,A,B,N,.un,.un,.un,.un,.un]=some (.rt d [.pm es',F,A,B,N,.im P,.im H,.im (.int k),s,s']))->qp es'->Tk (w10 T M dk W V) f n d->∃d es',fnM 4 10 (qt gf) es [.str f,TD T,MD M,.int (n:Nat)]=some (d,es')/\qp es'/\Tk (w10 T M dk W V) f n d:=λ{d es' s s'} e q t=>⟨d,es',vX (ρ:=[.pm es',F,A,B,N,.im P,.im H,.im (.int k),s,s']) rfl e rfl,q,t⟩;by_cases c1:k<2
 ·obtain⟨x,e2,x2,h2,hx⟩:=tm 5 _ .un h1 lP (λ_=>rfl);obtain⟨y,e3,x3,h3,hy⟩:=tm 6 _ .un h2 lH (λ_=>rfl);refine fin (s:=.un) (s':=.un) ?_ h3 (Vp g hf hx hy);unfold qt;exact(pre _).trans (p9 ((pR ((lt 2 .un).trans (by rw[aR c1]))).trans (qa (rF (ds:=[.str x,.str y]) (pB x2 (pB x3 rfl)) rfl))))
 have q1:cT (c2 Bx (cV 7) (cC (.int 2))) (σ e1 .un)=some (false,σ e1 .un):=(lt 2 .un).trans (by rw[aN c1]);have nq:∀c:Int,k≠c->cT (c2 (dEq false) (cV 7) (cC (.int c))) (σ e1 .un)=some (false,σ e1 .un):=λc hc=>(eq c .un).trans (by rw[aN hc]);have yq:∀c:Int,k=c->cT (c2 (dEq false) (cV 7) (cC (.int c))) (σ e1 .un)=some (true,σ e1 .un):=λc hc=>(eq c .un).trans (by rw[aR hc]);by_cases c2:k=2
 ·obtain⟨x,e2,x2,h2,hx⟩:=tm 5 _ .un h1 lP (λ_=>rfl);refine fin (s:=.un) (s':=.un) ?_ h2 (Tz g hf hx);unfold qt;exact(pre _).trans ((pW q1).trans (p9 ((pR (yq 2 c2)).trans (qa (rF (ds:=[.str x]) (pB x2 rfl) rfl)))))
 by_cases c3:k=3
 ·obtain⟨x,e2,x2,h2,hx⟩:=tm 5 _ .un h1 lP (λ_=>rfl);refine fin (s:=.un) (s':=.un) ?_ h2 (O6 g hf hx);unfold qt;exact(pre _).trans ((pW q1).trans ((pW (nq 2 c2)).trans (p9 ((pR (yq 3 c3)).trans (qa (rF (ds:=[.str x]) (pB x2 rfl) rfl))))))
 by_cases c4:k=4
 ·let kl:List Str:=["plain", "fixed", "box", "lamp", "room", "you"];let S:Sl:=.im (.lst (kl.map D.str));obtain⟨x,e2,x2,h2,hx⟩:=tm 5 _ S h1 lP (λ_=>rfl);obtain⟨y,hy,e3,x3,h3⟩:=HG (i:=0) (c:=6) (e:=cV 8) kl (λes=>σ es S) (λ_=>rfl) (λ_ _=>rfl) rfl h2 rfl (by decide) (by decide);refine fin (s:=S) (s':=.un) ?_ h3 (O8 g hf hx hy);unfold qt;exact(pre _).trans ((pW q1).trans ((pW (nq 2 c2)).trans ((pW (nq 3 c3)).trans (p9 ((pR (yq 4 c4)).trans ((px (ρ':=σ e1 S) rfl).trans (qa (rF (ds:=[.str x,.str y]) (pB x2 (pB x3 rfl)) rfl))))))))
 by_cases c5:k=5
 ·refine fin (s:=.un) (s':=.un) ?_ h1 (ML (f:=f));unfold qt;exact(pre _).trans ((pW q1).trans ((pW (nq 2 c2)).trans ((pW (nq 3 c3)).trans ((pW (nq 4 c4)).trans (p9 ((pR (yq 5 c5)).trans rfl))))))
 have wq:∀p:Prop,∀[Decidable p],(f="way" ↔ p)->cT (L4.c2 (dEq false) (cV 1) (cS "way")) (σ e1 .un)=some (decide p,σ e1 .un):=λp _ hp=>(rb (pT (x:=.str f) (y:=.str "way") rfl rfl (BJ false f "way"))).trans (by simp[hp]);by_cases c6:k=6/\f="way"
 ·obtain⟨ck,cf⟩:=c6;let wl:List Str:=["north", "up", "outside", "down"];obtain⟨y,hy,e3,x3,h3⟩:=HG (i:=0) (c:=4) (e:=cL (pN (aCons (cS "north") (aCons (cS "up") (aCons (cS "outside") (a1 (cS "down"))))))) wl (λes=>σ es .un) (λ_=>rfl) (λ_ _=>rfl) rfl h1 rfl (by decide) (by decide);refine fin (s:=.un) (s':=.un) ?_ h3 (by rw[cf];exact O9 hy);unfold qt;refine(pre _).trans ((pW q1).trans ((pW (nq 2 c2)).trans ((pW (nq 3 c3)).trans ((pW (nq 4 c4)).trans ((pW (nq 5 c5)).trans (p9 ((pR (ρ':=σ e1 .un) ?_).trans (qa (rF (ds:=[.str y]) (pB x3 rfl) rfl)))))))));unfold tZ;rw[yq 6 ck];exact(wq True (by simp[cf])).trans rfl
 have q6:tZ (cT (L4.c2 (dEq false) (cV 7) (cC (.int 6)))) (cT (L4.c2 (dEq false) (cV 1) (cS "way"))) (σ e1 .un)=some (false,σ e1 .un):=by
  unfold tZ;by_cases ck:k=6
  ·rw[yq 6 ck];exact(wq False (by simpa using λz=>c6 ⟨ck,z⟩)).trans rfl
  ·rw[nq 6 ck]
 by_cases c7:k<8
 ·obtain⟨d,e2,x2,h2,hd⟩:=Ke (V:=V) g hf h1;refine fin (s:=.un) (s':=.un) ?_ h2 (hd n);unfold qt;exact(pre _).trans ((pW q1).trans ((pW (nq 2 c2)).trans ((pW (nq 3 c3)).trans ((pW (nq 4 c4)).trans ((pW (nq 5 c5)).trans ((pW q6).trans (p9 ((pR ((lt 8 .un).trans (by rw[aR c7]))).trans (qa ((sR (es0:=e1) (es:=e1) (ds:=[.str f,TD T,MD M]) (ρ1:=σ e1 .un) rfl rfl rfl x2).trans rfl))))))))))
 obtain⟨m,rfl⟩:∃m,n=m+1:=by
  rcases hb with rfl|⟨_,h⟩
  ·exact ao k1 (by omega)
  ·exact h
 have q7:cT (L4.c2 Bx (cV 7) (cC (.int 8))) (σ e1 .un)=some (false,σ e1 .un):=(lt 8 .un).trans (by rw[aN c7]);have rec_:∀{es} (s':Sl),qp es->∃d es',p8 gf 0 (aCons (cV 1) (aCons (cV 2) (aCons (cV 3) (a1 (L4.c2 x8 (cV 4) (cC (.int 1))))))) [.pm es,F,A,B,N,.im P,.im H,.im (.int k),.un,s']=some (d,[.pm es',F,A,B,N,.im P,.im H,.im (.int k),.un,s'])/\qp es'/\Tk (w10 T M dk W V) f m d:=λ{es} s' h=>by
  obtain⟨d,es',e,q,t⟩:=hg m rfl es h;have e4:L4.c2 x8 (cV 4) (cC (.int 1)) [.pm es,F,A,B,N,.im P,.im H,.im (.int k),.un,s']=some (.int (m:Nat),[.pm es,F,A,B,N,.im P,.im H,.im (.int k),.un,s']):=by show some (D.int (((m+1:Nat):Int) - 1),_)=_;rw[show ((m+1:Nat):Int) - 1=m by omega]
  exact⟨d,es',(sR (es0:=es) (es:=es) (ds:=[.str f,TD T,MD M,.int (m:Nat)]) (ρ1:=[.pm es,F,A,B,N,.im P,.im H,.im (.int k),.un,s']) rfl (pB rfl (pB rfl (pB rfl (pB e4 rfl)))) rfl e).trans rfl,q,t⟩
 by_cases c8:k=8
 ·obtain⟨d,e2,x2,h2,hd⟩:=rec_ .un h1;refine fin (s:=.un) (s':=.un) ?_ h2 (MK hd);unfold qt;exact(pre _).trans ((pW q1).trans ((pW (nq 2 c2)).trans ((pW (nq 3 c3)).trans ((pW (nq 4 c4)).trans ((pW (nq 5 c5)).trans ((pW q6).trans ((pW q7).trans (p9 ((pR (yq 8 c8)).trans (qa (rF (ds:=[d]) (pB x2 rfl) rfl)))))))))))
 ·obtain⟨d,e2,x2,h2,hd⟩:=rec_ .un h1;obtain⟨d',e3,x3,h3,hd'⟩:=rec_ (.im d) h2;refine fin (s:=.un) (s':=.im d) ?_ h3 (Kc hd hd');unfold qt;exact(pre _).trans ((pW q1).trans ((pW (nq 2 c2)).trans ((pW (nq 3 c3)).trans ((pW (nq 4 c4)).trans ((pW (nq 5 c5)).trans ((pW q6).trans ((pW q7).trans ((pW (nq 8 c8)).trans ((px ((pO x2).trans rfl)).trans (qa (rF (ds:=[d,d']) (pB rfl (pB x3 rfl)) rfl)))))))))))
theorem Jf(g:Good T M dk W)(hf:f∈fms):∀(n:Nat) {es:List L4.D},qp es->∃d es',qN (n+1) es [.str f,TD T,MD M,.int (n:Nat)]=some (d,es')/\qp es'/\Tk (w10 T M dk W V) f n d
 |0,es,h=>Ek g hf 0 (qN 0) (λm hm=>by cases hm) h
 |n+1,es,h=>Ek g hf (n+1) (qN (n+1)) (λm hm es h=>by cases hm;exact Jf g hf n h) h
end
section
variable{T:List Th}{M:List Mk}{dk:List Str}{W:List Wy}{V:List Vb}{f:Str}{es:List L4.D}
theorem V0(g:Good T M dk W):∃t∈T,t.n="me" /\ t.k=.you:=by
 have h:("me" : Str)∈(T.filter λt=>decide (t.k=.you)).map Th.n:=by rw[g.y1];exact aX.mpr rfl
 obtain⟨t,ht,e⟩:=az.mp h;exact⟨t,(bp.mp ht).1,e,bx (bp.mp ht).2⟩
theorem Vr(h:x∈rmN T):∃t∈T,t.n=x/\t.k=.room:=by obtain⟨t,ht,rfl⟩:=az.mp h;exact⟨t,(bp.mp ht).1,rfl,bx (bp.mp ht).2⟩
theorem Vs(h:x∈rmN T):x∈hdN T:=by obtain⟨t,ht,rfl,hk⟩:=Vr h;exact bM (bp.mpr ⟨ht,by rw[hk];rfl⟩)
theorem Vt(g:Good T M dk W):rmN T≠[]:=λz=>by have:=g.r1;unfold rmN at z;rw[iK]at z;rw[z]at this;exact ao this (by decide)
def Mw(T:List Th)(f:Str)(L:List Str):Prop:=∀x∈L,Mv T f x/\x≠"me"
theorem PQ(g:Good T M dk W):Mw T f ((T.filter λt=>t.k.pl).map Th.n):=λx hx=>by obtain⟨t,ht,rfl⟩:=az.mp hx;obtain⟨h1,h2⟩:=bp.mp ht;refine⟨.inl ⟨t,h1,rfl,λz=>by rw[z]at h2;cases h2⟩,?_⟩;have:=(g.wd t h1).2 h2;exact bx (aE.mp (show (plL.all λq=>decide (q.1≠"me"))=true by kernel_rfl) t.nw this)
theorem Vu(hf:f∈(["one", "two"]:List Str)):∃L:List Str,Mw T f L/\L.length=3/\∀es a b c s rest,cV 1 (.pm es::.im (.str f)::a::b::c::s::rest)=some (.str f,.pm es::.im (.str f)::a::b::c::s::rest)/\cL (pN (aCons (cS "it") (aCons (cS "it") (a1 (c2 dIx (cL (pN (aCons (cS "it") (a1 (cS "other"))))) (c1 zj (c2 (dEq false) (cV 1) (cS "two")))))))) (.pm es::.im (.str f)::a::b::c::s::rest)=some (.lst (L.map D.str),.pm es::.im (.str f)::a::b::c::s::rest):=by
 simp only[aH,bX,or_false]at hf;rcases hf with rfl|rfl
 ·refine⟨["it", "it", "it"],λx hx=>?_,rfl,λes a b c s rest=>⟨rfl,rfl⟩⟩;have:x="it" := by simpa using hx
  subst this;exact⟨.inr (.inl ⟨rfl,by simp⟩),by decide⟩
 ·refine⟨["it", "it", "other"],λx hx=>?_,rfl,λes a b c s rest=>⟨rfl,rfl⟩⟩;simp only[aH,bX,or_false]at hx;rcases hx with rfl|rfl|rfl
  ·exact⟨.inr (.inl ⟨rfl,by simp⟩),by decide⟩
  ·exact⟨.inr (.inl ⟨rfl,by simp⟩),by decide⟩
  ·exact⟨.inr (.inr ⟨rfl,rfl⟩),by decide⟩
theorem Pa(g:Good T M dk W)(hf:f∈fms)(h:qp es):∃d es',tG es [.str f,TD T,MD M]=some (d,es')/\qp es'/\Dd (w10 T M dk W V) f d:=by
 have hl:=g.len;obtain⟨r,e1,x1,h1,hr⟩:=Am g hf h;let F:Sl:=.im (.str f);let A:Sl:=.im (TD T);let B:Sl:=.im (MD M);let R:Sl:=.im r;have s0:p6 4 (p8 qK 0 (aCons (cV 1) (aCons (cV 2) (a1 (cV 3))))) [.pm es,F,A,B,.un,.un,.un,.un]=some (.nx [.pm e1,F,A,B,R,.un,.un,.un]):=(pO (sR (es0:=es) (es:=es) (ds:=[.str f,TD T,MD M]) (ρ1:=[.pm es,F,A,B,.un,.un,.un,.un]) rfl rfl rfl x1)).trans rfl;have dig:∀{es} (b:Int) (rest:List Sl),qp es->0<b->b<1000->∃d es',p8 pq 0 (a1 (cC (.int b))) (.pm es::rest)=some (.int d,.pm es'::rest)/\0<=d/\d<b/\qp es':=λ{es} b rest h h0 h1=>dgx (i:=0) (b:=b) (a:=cC (.int b)) (λes=>.pm es::rest) (λ_=>rfl) (λ_ _=>rfl) rfl h h0 (by omega);have first:(∃d es',tG es [.str f,TD T,MD M]=some (d,es')/\qp es'/\Dd (w10 T M dk W V) f d)\/∃e2,qp e2/\sIf (tZ (cT (c2 uk (cV 4) (cC D.non))) (cT (c2 (dEq false) (p8 pq 0 (a1 (cC (.int 2)))) (cC (.int 1))))) (pU (pY 12 (λds=>sV (ds++[])) (aCons (c2 dIx (cV 4) (cC (.int 0))) (a1 (p8 pq 0 (a1 (c2 qO (c2 dIx (cV 4) (cC (.int 1))) (cC (.int 1))))))))) pQ [.pm e1,F,A,B,R,.un,.un,.un]=some (.nx [.pm e2,F,A,B,R,.un,.un,.un]):=by
  rcases hr with rfl|⟨q,rfl,hq,q0,q3⟩
  ·exact .inr ⟨e1,h1,(qz rfl).trans rfl⟩
  ·obtain⟨d,e2,x2,d0,d1,h2⟩:=dig (es:=e1) 2 [F,A,B,R,.un,.un,.un] h1 (by decide) (by decide);have et:tZ (cT (c2 uk (cV 4) (cC D.non))) (cT (c2 (dEq false) (p8 pq 0 (a1 (cC (.int 2)))) (cC (.int 1)))) [.pm e1,F,A,B,R,.un,.un,.un]=some (decide (d=1),[.pm e2,F,A,B,R,.un,.un,.un]):=by unfold tZ;rw[show cT (c2 uk (cV 4) (cC D.non)) [.pm e1,F,A,B,.im (pD q),.un,.un,.un]=some (true,[.pm e1,F,A,B,.im (pD q),.un,.un,.un]) from rfl];exact rb (pT (x:=.int d) (y:=.int 1) x2 rfl (uL false d 1))
   by_cases c:d=1
   ·obtain⟨v,e3,x3,h3,v0,v1⟩:=MP h2 F A B [.un,.un,.un] q q0 q3;refine .inl ⟨puO q.1 v,e3,vX (ρ:=[.pm e3,F,A,B,R,.un,.un,.un]) rfl ?_ rfl,h3,TB g hf hq v0 v1⟩;unfold ur;exact(px s0).trans (p9 ((pR (et.trans (by rw[aR c]))).trans (qa (rF (ds:=[.str q.1,.int v]) (pB rfl (pB x3 rfl)) rfl))))
   ·exact .inr ⟨e2,h2,(qz (et.trans (by rw[aN c]))).trans rfl⟩
 rcases first with first|⟨e2,h2,i2⟩
 ·exact first
 let PL:List Str:=(T.filter λt=>t.k.pl).map Th.n;have lPL:PL.length<=7:=by show (cn Th.n _).length<=7;rw[af];exact g.p7
 have s5:p6 5 (cL (qh pS (aCons (cV 2) (a1 (cL (pN (aCons (cS "plain") (aCons (cS "fixed") (aCons (cS "box") (a1 (cS "lamp")))))))))))  [.pm e2,F,A,B,R,.un,.un,.un]=some (.nx [.pm e2,F,A,B,R,.im (.lst (PL.map D.str)),.un,.un]):=(pO (qu (pz (g:=pS) (ds:=[TD T,.lst ((["plain", "fixed", "box", "lamp"]:List Str).map D.str)]) (ρ1:=[.pm e2,F,A,B,R,.un,.un,.un]) rfl (uu T (by omega) ["plain", "fixed", "box", "lamp"] Kd.pl VZ)))).trans rfl;let X:List Str->List Sl:=λL=>[F,A,B,R,.im (.lst (L.map D.str)),.un,.un];have nilT:∀{es} (L:List Str) (rest:List Sl),cT (c2 (dEq false) (cV 5) (cL (pN qe))) (.pm es::F::A::B::R::.im (.lst (L.map D.str))::rest)=some (decide (L.map D.str=[]),.pm es::F::A::B::R::.im (.lst (L.map D.str))::rest):=λL rest=>rb (pT (x:=.lst (L.map D.str)) (y:=.lst []) rfl rfl (eq_nil (AS L).1 (by rw[(AS L).2];decide)));have second:∃L e3,qp e3/\Mw T f L/\L.length<=10/\sIf (tZ (cT (c2 (dIn false) (cV 1) (cL (pN (aCons (cS "one") (a1 (cS "two"))))))) (tL (cT (c2 (dEq false) (cV 5) (cL (pN qe)))) (cT (c2 (dEq false) (p8 pq 0 (a1 (cC (.int 2)))) (cC (.int 1)))))) (p6 5 (cL (pN (aCons (cS "it") (aCons (cS "it") (a1 (c2 dIx (cL (pN (aCons (cS "it") (a1 (cS "other"))))) (c1 zj (c2 (dEq false) (cV 1) (cS "two")))))))))) pQ (.pm e2::X PL)=some (.nx (.pm e3::X L)):=by
  have ef:cT (c2 (dIn false) (cV 1) (cL (pN (aCons (cS "one") (a1 (cS "two")))))) (.pm e2::X PL)=some (decide (f∈(["one", "two"]:List Str)),.pm e2::X PL):=rb (pT (x:=.str f) (y:=.lst ((["one", "two"]:List Str).map D.str)) rfl rfl (ve false f ["one", "two"]));by_cases cf:f∈(["one", "two"]:List Str)
  ·rw[aR cf]at ef;obtain⟨L,mL,lL,eL⟩:=Vu (T:=T) cf;have set5:∀es,p6 5 (cL (pN (aCons (cS "it") (aCons (cS "it") (a1 (c2 dIx (cL (pN (aCons (cS "it") (a1 (cS "other"))))) (c1 zj (c2 (dEq false) (cV 1) (cS "two"))))))))) (.pm es::X PL)=some (.nx (.pm es::X L)):=λes=>(pO (eL es A B R (.im (.lst (PL.map D.str))) [.un,.un]).2).trans rfl;by_cases c0:PL.map D.str=[]
   ·refine⟨L,e2,h2,mL,by omega,(pR (ρ':=.pm e2::X PL) ?_).trans (set5 e2)⟩;unfold tZ;rw[ef];exact De ((nilT PL _).trans (by rw[aR c0]))
   ·obtain⟨d,e3,x3,d0,d1,h3⟩:=dig (es:=e2) 2 (X PL) h2 (by decide) (by decide);have et:tZ (cT (c2 (dIn false) (cV 1) (cL (pN (aCons (cS "one") (a1 (cS "two"))))))) (tL (cT (c2 (dEq false) (cV 5) (cL (pN qe)))) (cT (c2 (dEq false) (p8 pq 0 (a1 (cC (.int 2)))) (cC (.int 1))))) (.pm e2::X PL)=some (decide (d=1),.pm e3::X PL):=by unfold tZ;rw[ef];exact vV ((nilT PL _).trans (by rw[aN c0])) (rb (pT (x:=.int d) (y:=.int 1) x3 rfl (uL false d 1)))
    by_cases c1:d=1
    ·exact⟨L,e3,h3,mL,by omega,(pR (et.trans (by rw[aR c1]))).trans (set5 e3)⟩
    ·exact⟨PL,e3,h3,PQ g,by omega,(qz (et.trans (by rw[aN c1]))).trans rfl⟩
  ·rw[aN cf]at ef;refine⟨PL,e2,h2,PQ g,by omega,(qz (ρ':=.pm e2::X PL) ?_).trans rfl⟩;unfold tZ;rw[ef]
 obtain⟨L,e3,h3,mL,lL,i5⟩:=second;let RM:Sl:=.im (.lst ((rmN T).map D.str));let HD:Sl:=.im (.lst ((hdN T).map D.str));let LS:Sl:=.im (.lst (L.map D.str));have lR:(rmN T).length<=13:=by unfold rmN;rw[af];exact bc (b9 _ _) hl
 have lH:(hdN T).length<=13:=by unfold hdN;rw[af];exact bc (b9 _ _) hl
 have s6:p6 6 (cL (qh pS (aCons (cV 2) (a1 (cL (pN (a1 (cS "room")))))))) (.pm e3::X L)=some (.nx [.pm e3,F,A,B,R,LS,RM,.un]):=(pO (qu (pz (g:=pS) (ds:=[TD T,.lst ((["room"]:List Str).map D.str)]) (ρ1:=.pm e3::X L) rfl (uu T (by omega) ["room"] (λk=>decide (k=.room)) HF)))).trans rfl;have pickS:∀{es} (i:Nat) (N:List Str) (rest:List Sl),qp es->N≠[]->N.length<=100->(∀es,cV i (.pm es::rest)=some (.lst (N.map D.str),.pm es::rest))->∃x∈N,∃es',c2 dIx (cV i) (p8 pq 0 (a1 (c1 qR (cV i)))) (.pm es::rest)=some (.str x,.pm es'::rest)/\qp es':=λ{es} i N rest h h0 hN hi=>by obtain⟨d,hd,es',e,q⟩:=pk (i:=0) (e:=cV i) (a:=c1 qR (cV i)) (L:=N.map D.str) (λes=>.pm es::rest) (λ_=>rfl) (λ_ _=>rfl) (hi es) (Tp (hi es)) h (by simpa using h0) (by rw[af];omega);obtain⟨x,hx,rfl⟩:=az.mp hd;exact⟨x,hx,es',e,q⟩
 obtain⟨tm,htm,ntm,ktm⟩:=V0 g;have meM:Mv T f "me" := .inl ⟨tm,htm,ntm,λz=>by rw[ktm]at z;cases z⟩;have third:∃b e4,qp e4/\(b=false->L≠[])/\tL (cT (c2 (dEq false) (cV 5) (cL (pN qe)))) (cT (c2 (dEq false) (p8 pq 0 (a1 (cC (.int 4)))) (cC (.int 0)))) [.pm e3,F,A,B,R,LS,RM,.un]=some (b,[.pm e4,F,A,B,R,LS,RM,.un]):=by
  by_cases c0:L.map D.str=[]
  ·exact⟨true,e3,h3,λz=>(by cases z),De ((nilT L _).trans (by rw[aR c0]))⟩
  ·obtain⟨d,e4,x4,d0,d1,h4⟩:=dig (es:=e3) 4 [F,A,B,R,LS,RM,.un] h3 (by decide) (by decide);exact⟨decide (d=0),e4,h4,λ_ z=>c0 (by rw[z];rfl),vV ((nilT L _).trans (by rw[aN c0])) (rb (pT (x:=.int d) (y:=.int 0) x4 rfl (uL false d 0)))⟩
 obtain⟨b,e4,h4,hb,t4⟩:=third;cases b with
 |true=>obtain⟨y,hy,e5,x5,h5⟩:=pickS (es:=e4) 6 (rmN T) [F,A,B,R,LS,RM,.un] h4 (Vt g) (by omega) (λ_=>rfl);refine⟨mvO "me" y,e5,vX (ρ:=[.pm e5,F,A,B,R,LS,RM,.un]) rfl ?_ rfl,h5,Jd g hf meM (.inl (Vs hy)) λ_=>Vr hy⟩;unfold ur;exact(px s0).trans ((px i2).trans ((px s5).trans ((px i5).trans ((px s6).trans (p9 ((pR t4).trans (qa (rF (ds:=[.str "me", .str y]) (pB rfl (pB x5 rfl)) rfl))))))))
 |false=>obtain⟨x,hx,e5,x5,h5⟩:=pickS (es:=e4) 5 L [F,A,B,R,LS,RM,HD] h4 (hb rfl) (by omega) (λ_=>rfl);obtain⟨y,e6,x6,h6,hy⟩:=Je h5 hf (hdN T) (by omega);refine⟨mvO x y,e6,vX (ρ:=[.pm e6,F,A,B,R,LS,RM,HD]) rfl ?_ rfl,h6,Jd g hf (mL x hx).1 hy λz=>ao z (mL x hx).2⟩;unfold ur;refine(px s0).trans ((px i2).trans ((px s5).trans ((px i5).trans ((px s6).trans ((px ((qz t4).trans rfl)).trans ?_)))));refine(px (ρ':=[.pm e4,F,A,B,R,LS,RM,HD]) ((pO (qu (pz (g:=pS) (ds:=[TD T,.lst ((["room", "box", "you"]:List Str).map D.str)]) (ρ1:=[.pm e4,F,A,B,R,LS,RM,.un]) rfl (uu T (by omega) ["room", "box", "you"] Kd.hd MM)))).trans rfl)).trans (qa (rF (ds:=[.str x,.str y]) (pB x5 (pB ?_ rfl)) rfl));exact(sR (es0:=e5) (es:=e5) (ds:=[.str f,.lst ((hdN T).map D.str)]) (ρ1:=[.pm e5,F,A,B,R,LS,RM,HD]) rfl rfl rfl x6).trans rfl
end
theorem Dg{d:L4.D}(hd:noC 16 14 d=true):∀ds:List L4.D,uA 16 14 ds=true->uA 16 14 (ds++[d])=true
 |[],_=>by rw[bY];unfold uA;rw[hd];rfl
 |x::ds,h=>by rw[List.cons_append];unfold uA at h ⊢;rw[aF]at h ⊢;exact⟨h.1,Dg hd ds h.2⟩
theorem wR:∀ds:List L4.D,(∀d∈ds,noC 16 14 d=true)->uA 16 14 ds=true
 |[],_=>by unfold uA;rfl
 |x::ds,h=>by unfold uA;rw[aF];exact⟨h x aP,wR ds λd hd=>h d (aO _ hd)⟩
theorem MQ{d:L4.D}{k:Key}{P Q:List L4.D->Prop}(h1:∀ds,P ds->Q ds)(h2:∀ds,P ds->Q (ds++[d])):∀(ks:List Key) (dss:List (List L4.D)),(∀ds∈dss,P ds)->∀x∈fw (λk' ds=>if k'=k then ds++[d]else ds) ks dss,Q x
 |[],_,_,x,hx=>by cases hx
 |_::_,[],_,x,hx=>by cases hx
 |k0::ks,ds::dss,h,x,hx=>by
  rw[gH]at hx;rcases aH.mp hx with rfl|hx
  ·have:=h ds aP;split
   ·exact h2 _ this
   ·exact h1 _ this
  ·exact MQ h1 h2 ks dss (λds hd=>h ds (aO _ hd)) x hx
def gK(d:L4.D):Bool:=(match pG tR "verb" d with
 |some x=>(yV x).isSome
 |none=>false)&&noC 16 14 d
theorem MR:∀(L:List L4.D) (ks:List Key) (dss:List (List L4.D)),(∀d∈L,gK d=true)->ks.length=dss.length->ks.length+L.length<1000->(∀ds∈dss,ds.length+L.length<1000/\uA 16 14 ds=true)->
  ∃ks' dss',ye (pG tR "verb") L ks dss=some (ks',dss')/\∀ds∈dss',uA 16 14 ds=true
 |[],ks,dss,_,_,_,h=>⟨ks,dss,rfl,λds hd=>(h ds hd).2⟩
 |d::L,ks,dss,hg,hl,hk,h=>by
  rw[aB]at hk;have hL:∀ds∈dss,ds.length+L.length+1<1000/\uA 16 14 ds=true:=λds hd=>⟨by have:=(h ds hd).1;rw[aB]at this;omega,(h ds hd).2⟩;have gd:=hg d aP;unfold gK at gd;rw[aF]at gd;obtain⟨gd,nd⟩:=gd;obtain⟨x,k,e1,e2⟩:∃x k,pG tR "verb" d=some x/\yV x=some k:=by
   split at gd
   ·rename_i x e;exact⟨x,_,e,(Option.some_get gd).symm⟩
   ·cases gd
  have st:(yd ks dss k d).1.length=(yd ks dss k d).2.length/\(yd ks dss k d).1.length+L.length<1000/\∀ds∈(yd ks dss k d).2,ds.length+L.length<1000/\uA 16 14 ds=true:=by
   unfold yd;by_cases c:BA ks k=true
   ·rw[ah c];exact⟨by simp only[iH];omega,by simp only;omega,MQ (P:=λds=>ds.length+L.length+1<1000/\uA 16 14 ds=true) (λds h=>⟨by omega,h.2⟩) (λds h=>⟨by rw[au,bP];omega,Dg nd ds h.2⟩) ks dss hL⟩
   ·rw[aj c];refine⟨by simp[hl],by simp only[au,bP];omega,λds hd=>?_⟩;rcases aQ.mp hd with hd|hd
    ·exact⟨by have:=(hL ds hd).1;omega,(hL ds hd).2⟩
    ·rw[aX.mp hd];exact⟨by simp only[bP];omega,Dg nd [] (by unfold uA;rfl)⟩
  obtain⟨s1,s2,s3⟩:=st;obtain⟨ks',dss',q1,q3⟩:=MR L (yd ks dss k d).1 (yd ks dss k d).2 (λx hx=>hg x (aO _ hx)) s1 s2 s3;refine⟨ks',dss',?_,q3⟩;unfold ye;simp only[e1,e2];rw[ah]
  ·exact q1
  ·rw[aF];exact⟨aR (by omega),aE.mpr λds hd=>aR (by have:=(hL ds hd).1;omega)⟩
def ruN:List Str:=["verb", "tests", "deeds", "text", "refuses"]
def ruO(v:Str)(ts ds:List L4.D)(tx:Str)(rf:Bool):L4.D:=.obj 13 ruN [.str v,.lst ts,.lst ds,.str tx,.bl rf]
structure HI(w d:L4.D):Prop where
 r:AO [w,d]=some (.bl true)
 g:gK d=true
 c:AJ [d]=some d
section
variable{T:List Th}{M:List Mk}{dk:List Str}{W:List Wy}{V:List Vb}{f:Str}{es:List L4.D}
theorem HJ(nd:((V++v9).flatMap Vb.ws).Nodup){v:Vb}(hv:v∈V++v9):r6 [w10 T M dk W V,.str v.n]=some (vbO v):=by
 have e:r6 [w10 T M dk W V,.str v.n]=xJ (vwD (V++v9)) (.str v.n):=by kernel_rfl
 rw[e,Tu nd hv]
theorem Pb(h6:∀v∈V,v∈v6)(nd:((V++v9).flatMap Vb.ws).Nodup){v:Vb}(hv:v∈V++v9){ts:List L4.D}(ht:∀t∈ts,Tk (w10 T M dk W V) v.f 2 t)(lt:ts.length<=3)(hd:∀d∈ds,Dd (w10 T M dk W V) v.f d)(ld:ds.length<=3){rf:Bool}(hr:rf=true->ds=[]){tx:Str}(hx:wQ [.str tx]=some (.bl true)):HI (w10 T M dk W V) (ruO v.n ts ds tx rf):=by
 let w:=w10 T M dk W V;let r:=ruO v.n ts ds tx rf;have hv6:v∈v6++v9:=by
  rcases aQ.mp hv with hv|hv
  ·exact bg _ (h6 v hv)
  ·exact aZ _ hv
 have evo:=HJ (T:=T) (M:=M) (dk:=dk) (W:=W) nd hv;have en:vz [w,.str v.n]=some (.bl true):=by let ρ:List Sl:=[.im w,.im (.str v.n)];have nm:sA [.str v.n]=some (.bl true):=xG (aE.mp (show ((v6++v9).all λv=>isT (sA [.str v.n]))=true by kernel_rfl) v hv6);have mt:qB sd "verb_of" (cV 0) (a1 (cV 1)) ρ=some (vbO v,ρ):=rE (hh:=r6) (ys:=[.str v.n]) (ρ1:=ρ) (ρ2:=ρ) rfl rfl rfl rfl evo;refine qk (ρ:=ρ) rfl (qa ((qj (pz (ρ1:=ρ) (ds:=[.str v.n]) rfl nm)).trans ((qj (ρ1:=ρ) (pT mt rfl rfl)).trans (pT (x:=.str v.n) (y:=.str v.n) (qv mt rfl) rfl ?_))));rw[BJ];simp
 refine⟨?_,?_,by kernel_rfl⟩
 ·let ρ:List Sl:=[.im w,.im r,.un];let σ:List Sl:=[.im w,.im r,.im (.str v.f)];refine qk (ρ:=σ) rfl ?_;unfold AN;refine(pW (ρ:=ρ) (vV (ρ1:=ρ) rfl (vV (ρ1:=ρ) (zS (b:=true) (rb (pz (ds:=[w,.str v.n]) rfl en))) (zS (b:=true) (rb (pz (ds:=[.str tx]) rfl hx)))))).trans ?_;refine(px (ρ':=σ) ((pO (ρ':=ρ) (qv (g:=pG rH "form") (z:=.str v.f) (rE (hh:=r6) (ys:=[.str v.n]) (ρ1:=ρ) (ρ2:=ρ) rfl rfl rfl rfl evo) rfl)).trans rfl)).trans (qa ?_);have e1:yC [w,.str v.f,.lst ts]=some (.bl true):=qk (ρ:=[.im w,.im (.str v.f),.im (.lst ts)]) rfl (qa ((qj (pz (ds:=[.lst ts,.int 5]) (ρ1:=[.im w,.im (.str v.f),.im (.lst ts)]) rfl (Ja _ _ (by omega)))).trans (ug id ts (by rw[eB];rfl) (by omega) λt ht'=>⟨[.im t,.im w,.im (.str v.f)],[.im t,.im w,.im (.str v.f)],rfl,pz (ds:=[w,.str v.f,t,.int 4]) rfl ((ht t ht').2 4 (by decide) (by decide)),rfl⟩)));have e2:yD [w,.str v.f,.lst ds]=some (.bl true):=qk (ρ:=[.im w,.im (.str v.f),.im (.lst ds)]) rfl (qa ((qj (pz (ds:=[.lst ds,.int 4]) (ρ1:=[.im w,.im (.str v.f),.im (.lst ds)]) rfl (Ja _ _ (by omega)))).trans (ug id ds (by rw[eB];rfl) (by omega) λt ht'=>⟨[.im t,.im w,.im (.str v.f)],[.im t,.im w,.im (.str v.f)],rfl,pz (ds:=[w,.str v.f,t]) rfl (hd t ht').2,rfl⟩)));have e3:tU [r]=some (.bl true):=by
   cases rf with
   |false=>kernel_rfl
   |true=>rw[show r=ruO v.n ts [] tx true from by show ruO v.n ts ds tx true=_;rw[hr rfl]];kernel_rfl
  exact(qj (pz (ρ1:=σ) (ds:=[w,.str v.f,.lst ts]) rfl e1)).trans ((qj (pz (ρ1:=σ) (ds:=[w,.str v.f,.lst ds]) rfl e2)).trans (pz (ds:=[r]) rfl e3))
 ·have e:gK r=(uA 16 14 ts&&(uA 16 14 ds&&true)):=by kernel_rfl
  rw[e,wR ts λt h=>(ht t h).1,wR ds λt h=>(hd t h).1];rfl
end
def nf(v:Vb):Str×Str:=(v.n,v.f)
def prS(q:Str×Str):L4.D:=.tup [.str q.1,.str q.2]
def bsL:List (Str×Str):=[("take", "one"),("open", "one"),("put", "two"),("go", "way"),("wait", "alone"),("drop", "one")]
def fmL(V:List Vb):List (Str×Str):=bsL++(V.map nf++V.map nf)
theorem Vv{v:Vb}(h:v∈v6++v9):v.f∈fms:=bx (aE.mp (show ((v6++v9).all λv=>decide (v.f∈fms))=true by kernel_rfl) v h)
theorem V1{V:List Vb}{q:Str×Str}(h:q∈fmL V):∃v∈V++v9,nf v=q:=by
 rcases aQ.mp h with h|h
 ·have:=(show ∀q∈bsL,q∈v9.map nf by decide +kernel) q h;obtain⟨v,hv,e⟩:=az.mp this;exact⟨v,aZ _ hv,e⟩
 ·have h:q∈V.map nf:=(aQ.mp h).elim id id;obtain⟨v,hv,e⟩:=az.mp h;exact⟨v,bg _ hv,e⟩
def tx1(k:Nat):Option L4.D:=(dStrI (.int (k:Nat))).bind (ya (.str "Text "))
def tx2(d:Nat):Option L4.D:=Cj (.str ".") (.int (1+(d:Nat)))
def isS:Option L4.D->Bool
 |some (.str x)=>isT (wQ [.str x])
 |_=>false
theorem TF:((aL 3).all λk=>(aL 9).all λd=>isS ((tx1 k).bind λx=>(tx2 d).bind λy=>ya x y))=true:=by kernel_rfl
theorem Vw{k d:Nat}(hk:k<3)(hd:d<9):∃x a b y tx,dStrI (.int (k:Nat))=some x/\ya (.str "Text ") x=some a/\Cj (.str ".") (.int (1+(d:Nat)))=some y/\b=y/\ya a y=some (.str tx)/\wQ [.str tx]=some (.bl true):=by
 have h:=aE.mp (aE.mp TF k (bo.mpr hk)) d (bo.mpr hd);unfold isS at h;split at h
 ·rename_i tx e;obtain⟨a,e1,e⟩:=gB.mp e;obtain⟨x,e0,e1⟩:=gB.mp e1;obtain⟨y,e2,e3⟩:=gB.mp e;exact⟨x,a,y,y,tx,e0,e1,e2,rfl,e3,xG h⟩
 ·cases h
def rB:FS:=(pA (Dr (c2 dIx (cV 5) (p8 pq 0 (a1 (c1 qR (cV 5))))) (gT (qD (gN 8) (qD (gN 9) vG)) 2))
 (pA (p6 10 (cL (pH 1 [0,9,1,2] (iR1 (p8 pq 0 (a1 (cC (.int 4))))) (gN 0) qg (p8 (qN 3) 1 (aCons (cV 2) (aCons (cV 3) (aCons (cV 4) (a1 (cC (.int 2))))))))))
 (pA (p6 11 (c2 (dEq false) (p8 pq 0 (a1 (cC (.int 4)))) (cC (.int 0))))
 (pA (p6 12 (cL (pH 1 [0,9,1,2] (iR1 (c2 sZ (p8 pq 0 (a1 (cC (.int 4)))) (c1 zj (zg (cV 11))))) (gN 0) qg (p8 tG 1 (aCons (cV 2) (aCons (cV 3) (a1 (cV 4))))))))
 (qb (vT 6 (pY 13 (λds=>tu (ds++[])) (aCons (cV 8) (aCons (cV 10) (aCons (cV 12) (aCons (c2 ya (c2 ya (cS "Text ") (c1 dStrI (cV 7))) (c2 Cj (cS ".") (c2 qO (cC (.int 1)) (p8 pq 0 (a1 (cC (.int 9))))))) (a1 (cV 11)))))))))))))
section
variable{T:List Th}{M:List Mk}{dk:List Str}{W:List Wy}{V:List Vb}{f:Str}{es:List L4.D}
theorem many{P:L4.D->Prop}{fe:FE}{a3 a4 a5 a6 a7 a8 a10 a11 a12:Sl}(st:∀(d:L4.D) (es:List L4.D),qp es->∃x es',fe [.im d,.pm es,.im (.str f),.im (TD T),.im (MD M)]=some (x,[.im d,.pm es',.im (.str f),.im (TD T),.im (MD M)])/\qp es'/\P x):∀(l:List L4.D) (es:List L4.D),qp es->∃(xs:List L4.D) (es':List L4.D),xs.length=l.length/\(∀x∈xs,P x)/\qp es'/\
  u5 1 [0,9,1,2] (gN 0) qg fe l [.pm es,.im (TD T),.im (MD M),a3,a4,a5,a6,a7,a8,.im (.str f),a10,a11,a12]=some (xs,[.pm es',.im (TD T),.im (MD M),a3,a4,a5,a6,a7,a8,.im (.str f),a10,a11,a12])
 |[],es,h=>⟨[],es,rfl,λt ht=>(by cases ht),h,rfl⟩
 |d::l,es,h=>by
  obtain⟨x,e1,x1,h1,hx⟩:=st d es h;obtain⟨xs,e2,hl,hxs,h2,x2⟩:=many (a3:=a3) (a4:=a4) (a5:=a5) (a6:=a6) (a7:=a7) (a8:=a8) (a10:=a10) (a11:=a11) (a12:=a12) st l e1 h1;refine⟨x::xs,e2,by rw[aB,aB,hl],λy hy=>?_,h2,?_⟩
  ·rcases aH.mp hy with rfl|hy
   ·exact hx
   ·exact hxs y hy
  ·unfold u5;rw[show gN 0 d (zN 1 [0,9,1,2] [.pm es,.im (TD T),.im (MD M),a3,a4,a5,a6,a7,a8,.im (.str f),a10,a11,a12])=some [.im d,.pm es,.im (.str f),.im (TD T),.im (MD M)] from rfl];simp only[qg,x1];rw[show sH [0,9,1,2] (([.im d,.pm e1,.im (.str f),.im (TD T),.im (MD M)]:List Sl).drop 1) [.pm es,.im (TD T),.im (MD M),a3,a4,a5,a6,a7,a8,.im (.str f),a10,a11,a12]=some [.pm e1,.im (TD T),.im (MD M),a3,a4,a5,a6,a7,a8,.im (.str f),a10,a11,a12] from rfl];simp only[x2]
theorem Fd(n:Nat):(yU 0 n).length=n:=by unfold yU;simp
theorem Kg(g:Good T M dk W)(h6:∀v∈V,v∈v6)(lV:V.length<=6)(nd:((V++v9).flatMap Vb.ws).Nodup){k:Nat}(hk:k<3)(h:qp es)(R:List L4.D)(lR:R.length<900)(C E s8 s9 s10 s11 s12:Sl):∃r es' t8 t9 t10 t11 t12,qp es'/\HI (w10 T M dk W V) r/\
  rB [.pm es,.im (TD T),.im (MD M),C,E,.im (.lst ((fmL V).map prS)),.ls R,.im (.int (k:Nat)),s8,s9,s10,s11,s12]=some (.nx [.pm es',.im (TD T),.im (MD M),C,E,.im (.lst ((fmL V).map prS)),.ls (R++[r]),.im (.int (k:Nat)),t8,t9,t10,t11,t12]):=by
 let A:Sl:=.im (TD T);let B:Sl:=.im (MD M);let Q:Sl:=.im (.lst ((fmL V).map prS));let K:Sl:=.im (.int (k:Nat));have lF:(fmL V).length<=18:=by unfold fmL;rw[au,au,af];show 6+_<=18;omega
 obtain⟨d,hd,e1,x1,h1⟩:=pk (i:=0) (e:=cV 5) (a:=c1 qR (cV 5)) (L:=(fmL V).map prS) (λes=>[.pm es,A,B,C,E,Q,.ls R,K,s8,s9,s10,s11,s12]) (λ_=>rfl) (λ_ _=>rfl) rfl rfl h (by unfold fmL bsL;simp) (by rw[af];omega);obtain⟨q,hq,rfl⟩:=az.mp hd;obtain⟨v,hv,rfl⟩:=V1 hq;have hv6:v∈v6++v9:=by
  rcases aQ.mp hv with hv|hv
  ·exact bg _ (h6 v hv)
  ·exact aZ _ hv
 have hf:=Vv hv6;let X:Sl:=.im (.str v.n);let F:Sl:=.im (.str v.f);have dig:∀{es} (b:Int) (rest:List Sl),qp es->0<b->b<1000->∃d es',p8 pq 0 (a1 (cC (.int b))) (.pm es::rest)=some (.int d,.pm es'::rest)/\0<=d/\d<b/\qp es':=λ{es} b rest h h0 h1=>dgx (i:=0) (b:=b) (a:=cC (.int b)) (λes=>.pm es::rest) (λ_=>rfl) (λ_ _=>rfl) rfl h h0 (by omega);obtain⟨d2,e2,x2,p0,p1,h2⟩:=dig (es:=e1) 4 [A,B,C,E,Q,.ls R,K,X,F,s10,s11,s12] h1 (by decide) (by decide);obtain⟨n2,rfl⟩:=bL p0;obtain⟨ts,e3,lts,hts,h3,x3⟩:=many (T:=T) (M:=M) (f:=v.f) (P:=λd=>Tk (w10 T M dk W V) v.f 2 d) (fe:=p8 (qN 3) 1 (aCons (cV 2) (aCons (cV 3) (aCons (cV 4) (a1 (cC (.int 2))))))) (a3:=C) (a4:=E) (a5:=Q) (a6:=.ls R) (a7:=K) (a8:=X) (a10:=s10) (a11:=s11) (a12:=s12)
  (λd es h=>by
   obtain⟨x,es',e,q,t⟩:=Jf (V:=V) g hf 2 h;exact⟨x,es',(sR (i:=1) (es0:=es) (es:=es) (ds:=[.str v.f,TD T,MD M,.int 2]) (ρ1:=[.im d,.pm es,.im (.str v.f),.im (TD T),.im (MD M)]) rfl rfl rfl e).trans rfl,q,t⟩) (yU 0 n2) e2 h2
 rw[Fd]at lts;let TS:Sl:=.im (.lst ts);obtain⟨d4,e4,x4,_,_,h4⟩:=dig (es:=e3) 4 [A,B,C,E,Q,.ls R,K,X,F,TS,s11,s12] h3 (by decide) (by decide);let rf:Bool:=decide (d4=0);let RF:Sl:=.im (.bl rf);obtain⟨d5,e5,x5,r0,r1,h5⟩:=dig (es:=e4) 4 [A,B,C,E,Q,.ls R,K,X,F,TS,RF,s12] h4 (by decide) (by decide);obtain⟨n5,rfl⟩:=bL r0;let n6:Nat:=if rf then 0 else n5
 have l6:n6<=3:=by show (if rf then 0 else n5)<=3;split<;>omega
 obtain⟨ds,e6,lds,hds,h6',x6⟩:=many (T:=T) (M:=M) (f:=v.f) (P:=λd=>Dd (w10 T M dk W V) v.f d) (fe:=p8 tG 1 (aCons (cV 2) (aCons (cV 3) (a1 (cV 4))))) (a3:=C) (a4:=E) (a5:=Q) (a6:=.ls R) (a7:=K) (a8:=X) (a10:=TS) (a11:=RF) (a12:=s12)
  (λd es h=>by
   obtain⟨x,es',e,q,t⟩:=Pa (V:=V) g hf h;exact⟨x,es',(sR (i:=1) (es0:=es) (es:=es) (ds:=[.str v.f,TD T,MD M]) (ρ1:=[.im d,.pm es,.im (.str v.f),.im (TD T),.im (MD M)]) rfl rfl rfl e).trans rfl,q,t⟩) (yU 0 n6) e5 h5
 rw[Fd]at lds;let DS:Sl:=.im (.lst ds);obtain⟨d7,e7,x7,u0,u1,h7⟩:=dig (es:=e6) 9 [A,B,C,E,Q,.ls R,K,X,F,TS,RF,DS] h6' (by decide) (by decide);obtain⟨n7,rfl⟩:=bL u0;obtain⟨tx,ta,_,ty,t,w1,w2,w3,_,w4,w5⟩:=Vw (d:=n7) hk (by omega);have ok:HI (w10 T M dk W V) (ruO v.n ts ds t rf):=Pb h6 nd hv hts (by omega) hds (by omega) (λz=>by
  have:n6=0:=ah z;rw[this]at lds;exact gz.mp lds) w5
 refine⟨ruO v.n ts ds t rf,e7,X,F,TS,RF,DS,h7,ok,?_⟩;have rg:∀{e:FE} {ρ ρ1:List Sl} {n:Nat},e ρ=some (.int (n:Nat),ρ1)->n<=100->iR1 e ρ=some (yU 0 n,ρ1):=λ{e ρ ρ1 n} h hn=>by unfold iR1;rw[h];dsimp only;rw[ah (by omega),eR]
 unfold rB;refine(px (ρ':=[.pm e1,A,B,C,E,Q,.ls R,K,X,F,s10,s11,s12]) ?_).trans ?_
 ·unfold Dr;rw[x1];rfl
 refine(px (ρ':=[.pm e3,A,B,C,E,Q,.ls R,K,X,F,TS,s11,s12]) ((pO (qu ((zT (ds:=yU 0 n2) (ρ1:=[.pm e2,A,B,C,E,Q,.ls R,K,X,F,s10,s11,s12]) (rg x2 (by omega)) (by rw[Fd];omega)).trans x3))).trans rfl)).trans ?_;refine(px (ρ':=[.pm e4,A,B,C,E,Q,.ls R,K,X,F,TS,RF,s12]) ((pO (pT (x:=.int d4) (y:=.int 0) x4 rfl (uL false d4 0))).trans rfl)).trans ?_;have e56:c2 sZ (p8 pq 0 (a1 (cC (.int 4)))) (c1 zj (zg (cV 11))) [.pm e4,A,B,C,E,Q,.ls R,K,X,F,TS,RF,s12]=some (.int (n6:Nat),[.pm e5,A,B,C,E,Q,.ls R,K,X,F,TS,RF,s12]):=by
  show _=some (D.int ((if rf then 0 else n5:Nat):Int),_);have ec:c1 zj (zg (cV 11)) [.pm e5,A,B,C,E,Q,.ls R,K,X,F,TS,RF,s12]=some (.int (if !rf then 1 else 0),[.pm e5,A,B,C,E,Q,.ls R,K,X,F,TS,RF,s12]):=rfl;refine pT x5 ec ((uT (.inr (by cases rf<;>decide))).trans ?_);cases rf with
  |true=>simp
  |false=>simp
 refine(px (ρ':=[.pm e6,A,B,C,E,Q,.ls R,K,X,F,TS,RF,DS]) ((pO (qu ((zT (ds:=yU 0 n6) (ρ1:=[.pm e5,A,B,C,E,Q,.ls R,K,X,F,TS,RF,s12]) (rg e56 (by omega)) (by rw[Fd];omega)).trans x6))).trans rfl)).trans ?_;refine(qF (yb (es0:=R) (es:=R) (ρ1:=[.pm e7,A,B,C,E,Q,.ls R,K,X,F,TS,RF,DS]) (d:=ruO v.n ts ds t rf) rfl (rF (ds:=[.str v.n,.lst ts,.lst ds,.str t,.bl rf]) (pB rfl (pB rfl (pB rfl (pB (pT (pT (x:=.str "Text ") (y:=tx) (ρ1:=[.pm e6,A,B,C,E,Q,.ls R,K,X,F,TS,RF,DS]) (ρ2:=[.pm e6,A,B,C,E,Q,.ls R,K,X,F,TS,RF,DS]) rfl (qv (x:=.int (k:Nat)) rfl w1) w2) (pT (x:=.str ".") (ρ1:=[.pm e6,A,B,C,E,Q,.ls R,K,X,F,TS,RF,DS]) rfl (pT (x:=.int 1) rfl x7 rfl) w3) w4) (pB rfl rfl))))) (by kernel_rfl)) rfl (by omega))).trans rfl
end
theorem Vx(n:Nat):yU 0 n=(aL n).map λk:Nat=>D.int (k:Nat):=by unfold yU;simp
theorem MS{n:Nat}(h:e ρ=some (.int (n:Nat),ρ1))(hn:n<=100):iR1 e ρ=some ((aL n).map λk:Nat=>D.int (k:Nat),ρ1):=by unfold iR1;rw[h];dsimp only;rw[ah (by omega),eR,Vx]
section
variable{T:List Th}{M:List Mk}{dk:List Str}{W:List Wy}{V:List Vb}{es:List L4.D}
theorem Dh(g:Good T M dk W)(h6:∀v∈V,v∈v6)(lV:V.length<=6)(nd:((V++v9).flatMap Vb.ws).Nodup)(C E:Sl):∀(l:List Nat) (es R:List L4.D) (s7 s8 s9 s10 s11 s12:Sl),(∀k∈l,k<3)->qp es->R.length+l.length<900->∃R' es' t7 t8 t9 t10 t11 t12,qp es'/\R'.length=l.length/\(∀r∈R',HI (w10 T M dk W V) r)/\
  forL (gN 7) rB (l.map λk:Nat=>D.int (k:Nat)) [.pm es,.im (TD T),.im (MD M),C,E,.im (.lst ((fmL V).map prS)),.ls R,s7,s8,s9,s10,s11,s12]=some (.nx [.pm es',.im (TD T),.im (MD M),C,E,.im (.lst ((fmL V).map prS)),.ls (R++R'),t7,t8,t9,t10,t11,t12])
 |[],es,R,s7,s8,s9,s10,s11,s12,_,h,_=>⟨[],es,s7,s8,s9,s10,s11,s12,h,rfl,λr hr=>(by cases hr),by rw[bA];rfl⟩
 |k::l,es,R,s7,s8,s9,s10,s11,s12,hk,h,hl=>by
  rw[aB]at hl;obtain⟨r,e1,t8,t9,t10,t11,t12,h1,ok,x1⟩:=Kg g h6 lV nd (hk k aP) h R (by omega) C E s8 s9 s10 s11 s12;obtain⟨R',e2,u7,u8,u9,u10,u11,u12,h2,lR',okR,x2⟩:=Dh g h6 lV nd C E l e1 (R++[r]) (.im (.int (k:Nat))) t8 t9 t10 t11 t12 (λj hj=>hk j (aO _ hj)) h1 (by rw[au,bP];omega);refine⟨r::R',e2,u7,u8,u9,u10,u11,u12,h2,by rw[aB,aB,lR'],λy hy=>?_,?_⟩
  ·rcases aH.mp hy with rfl|hy
   ·exact ok
   ·exact okR y hy
  ·rw[aG];unfold forL;rw[show gN 7 (.int (k:Nat)) [.pm es,.im (TD T),.im (MD M),C,E,.im (.lst ((fmL V).map prS)),.ls R,s7,s8,s9,s10,s11,s12]=some [.pm es,.im (TD T),.im (MD M),C,E,.im (.lst ((fmL V).map prS)),.ls R,.im (.int (k:Nat)),s8,s9,s10,s11,s12] from rfl];simp only[x1];rw[x2,bq];rfl
theorem MU(g:Good T M dk W)(h6:∀v∈V,v∈v6)(lV:V.length<=6)(nd:((V++v9).flatMap Vb.ws).Nodup)(h:qp es):∃R es',xE es [TD T,MD M,VD V,.int 3]=some (.lst R,es')/\qp es'/\R.length<=3/\∀r∈R,HI (w10 T M dk W V) r:=by
 let A:Sl:=.im (TD T);let B:Sl:=.im (MD M);let C:Sl:=.im (VD V);let E:Sl:=.im (.int 3);let Q:Sl:=.im (.lst ((fmL V).map prS));obtain⟨d,e1,x1,p0,p1,h1⟩:=dgx (i:=0) (b:=4) (a:=c2 qO (cV 4) (cC (.int 1))) (λes=>[.pm es,A,B,C,E,Q,.ls [],.un,.un,.un,.un,.un,.un]) (λ_=>rfl) (λ_ _=>rfl) rfl h (by decide) (by decide);obtain⟨n,rfl⟩:=bL p0;obtain⟨R,e2,t7,t8,t9,t10,t11,t12,h2,lR,ok,x2⟩:=Dh g h6 lV nd C E (aL n) e1 [] .un .un .un .un .un .un (λk hk=>by have:=bo.mp hk;omega) h1 (by simp;omega);rw[cb]at lR;refine⟨R,e2,AA (ρ:=[.pm e2,A,B,C,E,Q,.un,t7,t8,t9,t10,t11,t12]) rfl ?_ rfl,h2,by omega,ok⟩;unfold xD;let D0:Sl:=.im (.lst (bsL.map prS));let ρ:List Sl:=[.pm es,A,B,C,E,D0,.un,.un,.un,.un,.un,.un,.un];refine(px (ρ':=ρ) rfl).trans ?_;have cm:cL (pH 1 [] (iL (cV 3)) (gN 0) qg (qd (aCons (c1 (pG pI "name") (cV 0)) (a1 (c1 (pG rH "form") (cV 0)))))) ρ=some (.lst ((V.map nf).map prS),ρ):=(qu (rQ vbO (λv=>prS (nf v)) V (ρ1:=ρ) rfl (by omega) λv _=>⟨[.im (vbO v)],[.im (vbO v)],rfl,rfl,rfl⟩)).trans (by rw[aJ];rfl);have rp:cL (cRep (cL (pH 1 [] (iL (cV 3)) (gN 0) qg (qd (aCons (c1 (pG pI "name") (cV 0)) (a1 (c1 (pG rH "form") (cV 0))))))) (cC (.int 2))) ρ=some (.lst ((V.map nf++V.map nf).map prS),ρ):=by refine qu ?_;unfold cRep;rw[cm];show (if ((V.map nf).map prS).length * 2<=1000/\(-1000:Int)<=2/\(2:Int)<=1000 then some ((br 2 ((V.map nf).map prS)).flatten,ρ)else none)=_;rw[ah ⟨by rw[af,af];omega,by decide,by decide⟩,aS];simp[br]
 refine(px (ρ':=[.pm es,A,B,C,E,Q,.un,.un,.un,.un,.un,.un,.un]) ((pO (qu (qP (xs:=bsL.map prS) (ρ1:=ρ) rfl rp (by rw[af,af,au,af];show 6+_<=1000;omega)))).trans ?_)).trans ?_
 ·show some (Out.nx [.pm es,A,B,C,E,.im (.lst (bsL.map prS++(V.map nf++V.map nf).map prS)),.un,.un,.un,.un,.un,.un,.un])=_;rw[<-aS];rfl
 refine(px (ρ':=[.pm es,A,B,C,E,Q,.ls [],.un,.un,.un,.un,.un,.un]) rfl).trans ?_;refine(px (ρ':=[.pm e2,A,B,C,E,Q,.ls R,t7,t8,t9,t10,t11,t12]) ((sG (MS x1 (by omega))).trans x2)).trans rfl
end
theorem Di{lo hi:FO}{ρ2 ρ3:List Sl}{l u:Option Int}(h1:e ρ=some (.lst ds,ρ1))(h2:lo ρ1=some (l,ρ2))(h3:hi ρ2=some (u,ρ3)):zk e lo hi ρ=some (cutD ds l u,ρ3):=by unfold zk;rw[h1];simp only[h2,h3]
theorem HK{i:Int}(h:e ρ=some (.int i,ρ1)):oAt e ρ=some (some i,ρ1):=by unfold oAt;rw[h]
theorem MV(h:qp es):∃t n es',t<6/\n<7/\xC es []=some (VD (vL t n),es')/\qp es':=by
 let Q:Sl:=.im (VD v6);obtain⟨d,e1,x1,p0,p1,h1⟩:=dgx (i:=0) (b:=6) (a:=cC (.int 6)) (λes=>[.pm es,Q,.un]) (λ_=>rfl) (λ_ _=>rfl) rfl h (by decide) (by decide);obtain⟨t,rfl⟩:=bL p0;let X:Sl:=.im (.int (t:Nat));obtain⟨d2,e2,x2,q0,q1,h2⟩:=dgx (i:=0) (b:=7) (a:=cC (.int 7)) (λes=>[.pm es,Q,X]) (λ_=>rfl) (λ_ _=>rfl) rfl h1 (by decide) (by decide);obtain⟨n,rfl⟩:=bL q0;refine⟨t,n,e2,by omega,by omega,AA (ρ:=[.pm e2,Q,X]) rfl ?_ rfl,h2⟩;unfold xB;refine(px (ρ':=[.pm es,.im (VD (v6.take 3)),.un]) (by kernel_rfl)).trans ((px (ρ':=[.pm es,Q,.un]) (by kernel_rfl)).trans ((px ((pO x1).trans rfl)).trans (se ?_)));have l6:(v6.map vbO).length=6:=rfl;have c1:cL (zk (cV 1) (oAt (cV 2)) oNo) [.pm e1,Q,X]=some (.lst ((v6.map vbO).drop t),[.pm e1,Q,X]):=qu (by
  show some (cutD (v6.map vbO) (some (t:Int)) none,_)=_;rw[MA t (by omega)])
 have c2:cL (zk (cV 1) oNo (oAt (cV 2))) [.pm e1,Q,X]=some (.lst ((v6.map vbO).take t),[.pm e1,Q,X]):=qu (by
  show some (cutD (v6.map vbO) none (some (t:Int)),_)=_;rw[CT t (by omega)])
 have ll:((v6.map vbO).drop t).length+((v6.map vbO).take t).length=6:=by rw[dw,bz,l6];omega
 refine(Di (qu (qP c1 c2 (by omega))) rfl (HK x2)).trans ?_;show some (cutD ((v6.map vbO).drop t++(v6.map vbO).take t) none (some (n:Int)),_)=_;have e:(vL t n).map vbO=((v6.map vbO).drop t++(v6.map vbO).take t).take n:=by unfold vL;rw[fW,aS,jm,fW]
 rw[e];rw[CT n (by rw[au];omega)]
def mB:FS:=(pA (p6 3 (c2 qO (cC (.int 1)) (p8 pq 0 (a1 (cC (.int 3))))))
 (qb (vT 1 (pY 1 (λds=>yn (ds++[])) (aCons (cV 2) (aCons (p8 pq 0 (a1 (c2 qO (cV 3) (cC (.int 1))))) (a1 (cV 3))))))))
theorem Dj:∀(l:List Str) (es:List L4.D) (M:List Mk) (s2 s3:Sl),qp es->M.length+l.length<=900->∃es' M' t2 t3,qp es'/\M'.map Mk.n=l/\(∀m∈M',m.ok)/\
  forL (gN 2) mB (l.map D.str) [.pm es,.ls (M.map mkD),s2,s3]=some (.nx [.pm es',.ls ((M++M').map mkD),t2,t3])
 |[],es,M,s2,s3,h,_=>⟨es,[],s2,s3,h,rfl,λm hm=>(by cases hm),by rw[bA];rfl⟩
 |x::l,es,M,s2,s3,h,hl=>by
  rw[aB]at hl;obtain⟨d,e1,x1,p0,p1,h1⟩:=dgx (i:=0) (b:=3) (a:=cC (.int 3)) (λes=>[.pm es,.ls (M.map mkD),.im (.str x),s3]) (λ_=>rfl) (λ_ _=>rfl) rfl h (by decide) (by decide);let Y:Sl:=.im (.int (1+d));obtain⟨d2,e2,x2,q0,q1,h2⟩:=dgx (i:=0) (b:=1+d+1) (a:=c2 qO (cV 3) (cC (.int 1))) (λes=>[.pm es,.ls (M.map mkD),.im (.str x),Y]) (λ_=>rfl) (λ_ _=>rfl) rfl h1 (by omega) (by omega);let m:Mk:=⟨x,d2,1+d⟩;have ok:m.ok:=⟨by show 1<=1+d;omega,by show 1+d<=3;omega,q0,by show d2<=1+d;omega⟩;obtain⟨e3,M',t2,t3,h3,eM,okM,x3⟩:=Dj l e2 (M++[m]) (.im (.str x)) Y h2 (by rw[au,bP];omega);refine⟨e3,m::M',t2,t3,h3,by rw[aG,eM],λy hy=>?_,?_⟩
  ·rcases aH.mp hy with rfl|hy
   ·exact ok
   ·exact okM y hy
  ·rw[aG];unfold forL;rw[show gN 2 (.str x) [.pm es,.ls (M.map mkD),s2,s3]=some [.pm es,.ls (M.map mkD),.im (.str x),s3] from rfl];have xb:mB [.pm es,.ls (M.map mkD),.im (.str x),s3]=some (.nx [.pm e2,.ls ((M++[m]).map mkD),.im (.str x),Y]):=by unfold mB;refine(px (ρ':=[.pm e1,.ls (M.map mkD),.im (.str x),Y]) ((pO (pT (x:=.int 1) rfl x1 rfl)).trans rfl)).trans ?_;refine(qF (yb (es0:=M.map mkD) (es:=M.map mkD) (ρ1:=[.pm e2,.ls (M.map mkD),.im (.str x),Y]) (d:=mkD m) rfl (rF (ds:=[.str x,.int d2,.int (1+d)]) (pB rfl (pB x2 rfl)) rfl) rfl (by rw[af];omega))).trans ?_;rw[aS];rfl
   simp only[xb];rw[x3,bq];rfl
theorem MW(h:qp es):∃M es',xA es []=some (MD M,es')/\qp es'/\(∀m∈M,m.ok)/\∃n,M.map Mk.n=mkL.take n:=by
 obtain⟨d,e1,x1,p0,p1,h1⟩:=dgx (i:=0) (b:=5) (a:=cC (.int 5)) (λes=>[.pm es,.ls [],.un,.un]) (λ_=>rfl) (λ_ _=>rfl) rfl h (by decide) (by decide);obtain⟨n,rfl⟩:=bL p0;obtain⟨e2,M,t2,t3,h2,eM,ok,x2⟩:=Dj (mkL.take n) e1 [] .un .un h1 (by rw[bz];simp only[de];omega);refine⟨M,e2,AA (ρ:=[.pm e2,.un,t2,t3]) rfl ?_ rfl,h2,ok,n,eM⟩;unfold xy;refine(px (ρ':=[.pm es,.ls [],.un,.un]) rfl).trans ((px (ρ':=[.pm e2,.ls (M.map mkD),t2,t3]) ((sG (ds:=(mkL.take n).map D.str) (ρ1:=[.pm e1,.ls [],.un,.un]) ?_).trans x2)).trans rfl);have e:cL (zk (cL (pN (aCons (cS "gate") (aCons (cS "luck") (aCons (cS "tide") (a1 (cS "i"))))))) oNo (oAt (p8 pq 0 (a1 (cC (.int 5)))))) [.pm es,.ls [],.un,.un]=some (.lst ((mkL.take n).map D.str),[.pm e1,.ls [],.un,.un]):=by refine(qu (Di (ds:=mkL.map D.str) (ρ1:=[.pm es,.ls [],.un,.un]) rfl rfl (HK x1))).trans ?_;rw[CT n (by rw[af];show n<=4;omega),fW]
 unfold iL;rw[e]
def DF(i:Nat):Str×List Str:=plL.getD i ("key", ["key"])
def plD(q:Str×List Str):L4.D:=.tup [.str q.1,.tup (q.2.map D.str)]
def kL:List Kd:=[.plain,.box,.lamp,.box,.fixed,.plain]
def tB:FS:=(pA (Dr (c2 dIx (cV 4) (c2 ua (c2 qO (cV 6) (cV 5)) (cC (.int 7)))) (gT (qD (gN 7) (qD (gN 8) vG)) 2))
 (pA (p6 9 (c2 dIx (cL (pN (aCons (cS "plain") (aCons (cS "box") (aCons (cS "lamp") (aCons (cS "box") (aCons (cS "fixed") (a1 (cS "plain"))))))))) (p8 pq 0 (a1 (cC (.int 6))))))
 (pA (qb (vT 2 (pY 0 (λds=>sD (ds++[])) (aCons (cV 7) (aCons (cV 8) (aCons (cV 9) (a1 (EK 3 (p8 pq 0 (a1 (vb (c1 qR (cV 3)))))))))))))
 (sIf (cT (c2 (dEq false) (cV 9) (cS "box"))) (qb (vT 3 (cV 7))) pQ))))
theorem MX(h:i<7):DF i∈plL/\atI (plL.map plD) (i:Int)=some (plD (DF i)):=by
 have e:plL[i]?=some (DF i):=by unfold DF;rw[gr,aY (show i<plL.length from h)];rfl
 exact⟨bF e,zG (by rw[bb,e];rfl)⟩
theorem Bt(a:Sl)(tn:Nat)(htn:tn<7):∀(l:List Nat) (es:List L4.D) (P:List Th) (Hs:List Str) (s6 s7 s8 s9:Sl),qp es->Hs≠[]->(∀x∈Hs,∃u∈P,u.n=x/\u.k.hd=true)->Ord P->P.length+l.length<=900->Hs.length+l.length<=900->
  ∃(es':List L4.D) (P':List Th) (Hs':List Str) (t6 t7 t8 t9:Sl),qp es'/\Ord (P++P')/\P'.map Th.nw=l.map (λk=>DF ((k+tn) % 7))/\(∀t∈P',t.k.pl=true)/\
   forL (gN 6) tB (l.map λk:Nat=>D.int (k:Nat)) [.pm es,a,.ls (P.map thD),.ls (Hs.map D.str),.im (.lst (plL.map plD)),.im (.int (tn:Nat)),s6,s7,s8,s9]=some (.nx [.pm es',a,.ls ((P++P').map thD),.ls (Hs'.map D.str),.im (.lst (plL.map plD)),.im (.int (tn:Nat)),t6,t7,t8,t9])
 |[],es,P,Hs,s6,s7,s8,s9,h,_,_,ho,_,_=>⟨es,[],Hs,s6,s7,s8,s9,h,by rw[bA];exact ho,rfl,λr hr=>(bX hr).elim,by rw[bA];rfl⟩
 |k::l,es,P,Hs,s6,s7,s8,s9,h,h0,hH,ho,hl,hl'=>by
  rw[aB]at hl hl';let Q:Sl:=.im (.lst (plL.map plD));let N:Sl:=.im (.int (tn:Nat));let K:Sl:=.im (.int (k:Nat));let i:Nat:=(k+tn) % 7;have hi:i<7:=eC _ (by decide);obtain⟨pm,ea⟩:=MX hi;let q:=DF i;let X:Sl:=.im (.str q.1);let Y:Sl:=.im (.tup (q.2.map D.str));obtain⟨d,e1,x1,p0,p1,h1⟩:=dgx (i:=0) (b:=6) (a:=cC (.int 6)) (λes=>[.pm es,a,.ls (P.map thD),.ls (Hs.map D.str),Q,N,K,X,Y,s9]) (λ_=>rfl) (λ_ _=>rfl) rfl h (by decide) (by decide);obtain⟨j,rfl⟩:=bL p0;have hj:j<kL.length:=by show j<6;omega
  let kd:Kd:=kL[j];have hpl:kd.pl=true:=(show ∀k∈kL,Kd.pl k=true by decide) _ (dX hj);have ek:dIx (.lst (kL.map λk=>D.str k.s)) (.int (j:Nat))=some (.str kd.s):=zG (by rw[bb,aY hj];rfl);let Z:Sl:=.im (.str kd.s);let ρ1:List Sl:=[.pm e1,a,.ls (P.map thD),.ls (Hs.map D.str),Q,N,K,X,Y,Z];obtain⟨dd,hdd,e2,h2,x2⟩:=ixs (ρ:=ρ1) (i:=0) (j:=3) h1 (by simpa using h0) (by rw[af];omega) rfl rfl rfl (λ_=>rfl);obtain⟨p,hp,rfl⟩:=az.mp hdd;let t:Th:=⟨q.1,q.2,kd,some p⟩;obtain⟨u,hu,hun,huk⟩:=hH p hp;have ok:E6 P t:=.inr (.inr ⟨hpl,u,hu,by rw[hun],huk⟩);let Hs1:List Str:=if kd=.box then Hs++[q.1]else Hs
  have xb:tB [.pm es,a,.ls (P.map thD),.ls (Hs.map D.str),Q,N,K,s7,s8,s9]=some (.nx [.pm e2,a,.ls ((P++[t]).map thD),.ls (Hs1.map D.str),Q,N,K,X,Y,Z]):=by
   unfold tB;refine(px (ρ':=[.pm es,a,.ls (P.map thD),.ls (Hs.map D.str),Q,N,K,X,Y,s9]) ?_).trans ?_
   ·have em:c2 ua (c2 qO (cV 6) (cV 5)) (cC (.int 7)) [.pm es,a,.ls (P.map thD),.ls (Hs.map D.str),Q,N,K,s7,s8,s9]=some (.int (i:Nat),[.pm es,a,.ls (P.map thD),.ls (Hs.map D.str),Q,N,K,s7,s8,s9]):=(pT (x:=.int ((k:Int)+(tn:Int))) rfl rfl (yK (by decide))).trans (by
     rw[show ((k:Int)+(tn:Int)) % 7=((i:Nat):Int) by show _=(((k+tn) % 7:Nat):Int);omega])
    unfold Dr;rw[pT (x:=.lst (plL.map plD)) (ρ1:=[.pm es,a,.ls (P.map thD),.ls (Hs.map D.str),Q,N,K,s7,s8,s9]) rfl em ea];rfl
   refine(px (ρ':=ρ1) ((pO (pT (x:=.lst (kL.map λk=>D.str k.s)) rfl x1 ek)).trans rfl)).trans ?_;let ρ3:List Sl:=[.pm e2,a,.ls ((P++[t]).map thD),.ls (Hs.map D.str),Q,N,K,X,Y,Z];refine(px (ρ':=ρ3) ((qF (yb (es0:=P.map thD) (es:=P.map thD) (ρ1:=[.pm e2,a,.ls (P.map thD),.ls (Hs.map D.str),Q,N,K,X,Y,Z]) (d:=thD t) rfl (rF (ds:=[.str q.1,.tup (q.2.map D.str),.str kd.s,.str p]) (pB rfl (pB rfl (pB rfl (pB x2 rfl)))) rfl) rfl (by rw[af];omega))).trans ?_)).trans ?_
   ·show some (Out.nx [.pm e2,a,.ls (P.map thD++[thD t]),.ls (Hs.map D.str),Q,N,K,X,Y,Z])=_;rw[show P.map thD++[thD t]=(P++[t]).map thD by rw[aS];rfl]
   ·have et:cT (c2 (dEq false) (cV 9) (cS "box")) ρ3=some (decide (kd=.box),ρ3):=rb (pT rfl rfl (CO kd .box));by_cases hb:kd=.box
    ·rw[aR hb]at et;refine(pR et).trans ((qF (yb (es0:=Hs.map D.str) (es:=Hs.map D.str) (ρ1:=ρ3) (d:=.str q.1) rfl rfl rfl (by rw[af];omega))).trans ?_);show some (Out.nx [.pm e2,a,.ls ((P++[t]).map thD),.ls (Hs.map D.str++[.str q.1]),Q,N,K,X,Y,Z])=_;rw[show Hs1.map D.str=Hs.map D.str++[.str q.1] by rw[show Hs1=Hs++[q.1] from ah hb,aS];rfl]
    ·rw[aN hb]at et;refine(qz et).trans ?_;rw[show Hs1=Hs from aj hb];rfl
  have hH1:∀y∈Hs1,∃u∈P++[t],u.n=y/\u.k.hd=true:=λy hy=>by
   have old:y∈Hs->∃u∈P++[t],u.n=y/\u.k.hd=true:=λhy=>by obtain⟨v,hv,h⟩:=hH y hy;exact⟨v,bg _ hv,h⟩
   by_cases hb:kd=.box
   ·rw[show Hs1=Hs++[q.1] from ah hb]at hy;rcases aQ.mp hy with hy|hy
    ·exact old hy
    ·rw[aX]at hy;refine⟨t,by simp,hy.symm,?_⟩;show kd.hd=true;rw[hb];rfl
   ·rw[show Hs1=Hs from aj hb]at hy;exact old hy
  have h01:Hs1≠[]:=by
   by_cases hb:kd=.box
   ·rw[show Hs1=Hs++[q.1] from ah hb];simp
   ·rw[show Hs1=Hs from aj hb];exact h0
  have hl1:Hs1.length<=Hs.length+1:=by
   by_cases hb:kd=.box
   ·rw[show Hs1=Hs++[q.1] from ah hb];simp
   ·rw[show Hs1=Hs from aj hb];omega
  obtain⟨e3,P',Hs',t6,t7,t8,t9,g1,g2,g3,g4,g5⟩:=Bt a tn htn l e2 (P++[t]) Hs1 K X Y Z h2 h01 hH1 (ho.snoc ok) (by rw[au,bP];omega) (by omega);refine⟨e3,t::P',Hs',t6,t7,t8,t9,g1,by rw[bq]at g2;exact g2,by rw[aG,aG,g3];rfl,λr hr=>?_,?_⟩
  ·rcases aH.mp hr with rfl|hr
   ·exact hpl
   ·exact g4 r hr
  ·rw[aG];unfold forL;rw[show gN 6 (.int (k:Nat)) [.pm es,a,.ls (P.map thD),.ls (Hs.map D.str),Q,N,s6,s7,s8,s9]=some [.pm es,a,.ls (P.map thD),.ls (Hs.map D.str),Q,N,K,s7,s8,s9] from rfl];simp only[xb];rw[g5,bq];rfl
def rmT(x:Str):Th:=⟨x,[x,"place"],.room,none⟩
structure HL(T:List Th):Prop where
 ord:Ord T
 ex:∃(r tn n:Nat) (y:Str) (P:List Th),1<=r/\r<=5/\tn<7/\n<8/\T=(rmL.take r).map rmT++⟨"me", ["me", "self"],.you,some y⟩::P/\P.map Th.nw=(aL n).map (λk=>DF ((k+tn) % 7))/\∀t∈P,t.k.pl=true
theorem El:∀(l:List Str) (B:List Th),Ord B->Ord (B++l.map rmT)
 |[],B,h=>by rw[eA,bA];exact h
 |x::l,B,h=>by rw[aG,List.append_cons];exact El l _ (h.snoc (.inl ⟨rfl,rfl⟩))
theorem Kh(h:qp es):∃(T:List Th) (j:Nat) (es':List L4.D),HL T/\j<T.length/\wt es []=some (TD (T.drop j++T.take j),es')/\qp es':=by
 let U:Sl:=.un;obtain⟨d,e1,x1,p0,p1,h1⟩:=dgx (i:=0) (b:=5) (a:=cC (.int 5)) (λes=>[.pm es,U,U,U,U,U,U,U,U,U]) (λ_=>rfl) (λ_ _=>rfl) rfl h (by decide) (by decide);obtain⟨r,rfl⟩:=bL p0;let R:List Str:=rmL.take (1+r);have lR:R.length=1+r:=by show (rmL.take (1+r)).length=_;rw[bz];show min (1+r) 5=_;omega
 let RS:Sl:=.im (.lst (R.map D.str));let T0:List Th:=R.map rmT;obtain⟨dd,hdd,e2,x2,h2⟩:=pk (i:=0) (e:=cV 1) (a:=c1 qR (cV 1)) (L:=R.map D.str) (λes=>[.pm es,RS,.ls (T0.map thD),U,U,U,U,U,U,U]) (λ_=>rfl) (λ_ _=>rfl) rfl rfl h1 (by intro z;have:=bj cg z;rw[af,lR]at this;simp at this) (by rw[af];omega);obtain⟨y,hy,rfl⟩:=az.mp hdd;let me:Th:=⟨"me", ["me", "self"],.you,some y⟩;let P0:List Th:=T0++[me];have o0:Ord T0:=by have:=El R [] .nil;rw[bY]at this;exact this
 have o1:Ord P0:=o0.snoc (.inr (.inl ⟨rfl,rmT y,bM hy,rfl,rfl⟩));let Hs:List Str:=R++(["me"]:List Str);have hH:∀x∈Hs,∃u∈P0,u.n=x/\u.k.hd=true:=λx hx=>by
  rcases aQ.mp hx with hx|hx
  ·exact⟨rmT x,bg _ (bM hx),rfl,rfl⟩
  ·exact⟨me,aZ _ (aX.mpr rfl),(aX.mp hx).symm,rfl⟩
 have lP:P0.length=2+r:=by show (R.map rmT++[me]).length=_;rw[au,af,lR];show 1+r+1=_;omega
 have lH:Hs.length=2+r:=by show (R++_).length=_;rw[au,lR];show 1+r+1=_;omega
 let Q:Sl:=.im (.lst (plL.map plD));obtain⟨d3,e3,x3,q0,q1,h3⟩:=dgx (i:=0) (b:=7) (a:=cC (.int 7)) (λes=>[.pm es,RS,.ls (P0.map thD),.ls (Hs.map D.str),Q,U,U,U,U,U]) (λ_=>rfl) (λ_ _=>rfl) rfl h2 (by decide) (by decide);obtain⟨tn,rfl⟩:=bL q0;let N:Sl:=.im (.int (tn:Nat));obtain⟨d4,e4,x4,u0,u1,h4⟩:=dgx (i:=0) (b:=8) (a:=cC (.int 8)) (λes=>[.pm es,RS,.ls (P0.map thD),.ls (Hs.map D.str),Q,N,U,U,U,U]) (λ_=>rfl) (λ_ _=>rfl) rfl h3 (by decide) (by decide);obtain⟨n,rfl⟩:=bL u0;obtain⟨e5,P',Hs',t6,t7,t8,t9,h5,o5,g3,g4,x5⟩:=Bt RS tn (by omega) (aL n) e4 P0 Hs U U U U h4 (by show R++(["me"]:List Str)≠[];simp) hH o1 (by rw[cb];omega) (by rw[cb];omega);let T:List Th:=P0++P';have lP':P'.length=n:=by have:=bj cg g3;rw[af,af,cb]at this;exact this
 have lT:T.length=2+r+n:=by show (P0++P').length=_;rw[au,lP,lP']
 let HS:Sl:=.ls (Hs'.map D.str);obtain⟨d6,e6,x6,v0,v1,h6⟩:=dgx (i:=0) (b:=T.length) (a:=vb (c1 qR (cV 2))) (λes=>[.pm es,RS,.ls (T.map thD),HS,Q,N,t6,t7,t8,t9]) (λ_=>rfl) (λ_ _=>rfl) (Cg (qv rfl (by show some (D.int _)=_;rw[af])) rfl) h5 (by omega) (by omega);obtain⟨j,rfl⟩:=bL v0;have hj:j<T.length:=by omega
 have d0:HL T:=⟨o5,1+r,tn,n,y,P',by omega,by omega,by omega,by omega,by show (R.map rmT++[me])++P'=_;rw[bq];rfl,g3,g4⟩;let J:Sl:=.im (.int (j:Nat));let TL:Sl:=.im (TD T);refine⟨T,j,e6,d0,hj,?_,h6⟩;refine AA (ρ:=[.pm e6,RS,TL,HS,Q,J,t6,t7,t8,t9]) rfl ?_ rfl;unfold wm;refine(px (ρ':=[.pm e1,RS,U,U,U,U,U,U,U,U]) ((pO (qu (Di (ds:=rmL.map D.str) (ρ1:=[.pm es,U,U,U,U,U,U,U,U,U]) rfl rfl (HK (pT (x:=.int 1) rfl x1 rfl))))).trans ?_)).trans ?_
 ·show some (Out.nx [.pm e1,.im (.lst (cutD (rmL.map D.str) none (some (1+(r:Int))))),U,U,U,U,U,U,U,U])=_;rw[show (1+(r:Int))=((1+r:Nat):Int) by omega,CT (1+r) (by rw[af];show 1+r<=5;omega),<- fW]
 refine(px (ρ':=[.pm e1,RS,.ls (T0.map thD),U,U,U,U,U,U,U]) ((xa (rQ D.str (λx=>thD (rmT x)) R (ρ1:=[.pm e1,RS,U,U,U,U,U,U,U,U]) rfl (by omega) λx _=>⟨[.im (.str x)],[.im (.str x)],rfl,rfl,rfl⟩)).trans ?_)).trans ?_
 ·rw[show T0.map thD=R.map λx=>thD (rmT x) by show (R.map rmT).map thD=_;rw[aJ];rfl];rfl
 refine(px (ρ':=[.pm e2,RS,.ls (P0.map thD),U,U,U,U,U,U,U]) ((qF (yb (es0:=T0.map thD) (es:=T0.map thD) (ρ1:=[.pm e2,RS,.ls (T0.map thD),U,U,U,U,U,U,U]) (d:=thD me) rfl (rF (ds:=[.str "me", .tup [.str "me", .str "self"],.str "you", .str y]) (pB rfl (pB rfl (pB rfl (pB x2 rfl)))) rfl) rfl (by show ((R.map rmT).map thD).length<1000;rw[af,af];omega))).trans ?_)).trans ?_
 ·rw[show P0.map thD=T0.map thD++[thD me] by show (T0++[me]).map thD=_;rw[aS];rfl];rfl
 refine(px (ρ':=[.pm e2,RS,.ls (P0.map thD),.ls (Hs.map D.str),U,U,U,U,U,U]) ((xa (qP (xs:=R.map D.str) (ys:=[.str "me"]) (ρ1:=[.pm e2,RS,.ls (P0.map thD),U,U,U,U,U,U,U]) rfl rfl (by rw[af];show R.length+1<=1000;omega))).trans ?_)).trans ?_
 ·rw[show Hs.map D.str=R.map D.str++[.str "me"] by show (R++(["me"]:List Str)).map D.str=_;rw[aS];rfl];rfl
 refine(px (ρ':=[.pm e2,RS,.ls (P0.map thD),.ls (Hs.map D.str),.im (.lst ((plL.take 4).map plD)),U,U,U,U,U]) rfl).trans ?_;refine(px (ρ':=[.pm e2,RS,.ls (P0.map thD),.ls (Hs.map D.str),Q,U,U,U,U,U]) rfl).trans ?_;refine(px ((pO x3).trans rfl)).trans ?_;refine(px (ρ':=[.pm e5,RS,.ls (T.map thD),HS,Q,N,t6,t7,t8,t9]) ((sG (MS (ρ1:=[.pm e4,RS,.ls (P0.map thD),.ls (Hs.map D.str),Q,N,U,U,U,U]) x4 (by omega))).trans x5)).trans ?_;refine(px (ρ':=[.pm e6,RS,.ls (T.map thD),HS,Q,J,t6,t7,t8,t9]) ((pO x6).trans rfl)).trans (se ?_);refine(qP (xs:=(T.map thD).drop j) (ys:=(T.map thD).take j) (ρ1:=[.pm e6,RS,TL,HS,Q,J,t6,t7,t8,t9]) (ρ2:=[.pm e6,RS,TL,HS,Q,J,t6,t7,t8,t9]) ?_ ?_ (by rw[dw,bz,af];omega)).trans ?_
 ·refine(qu (Di (ds:=T.map thD) (ρ1:=[.pm e6,RS,TL,HS,Q,J,t6,t7,t8,t9]) (l:=some (j:Int)) (u:=none) rfl rfl rfl)).trans ?_;rw[MA j (by rw[af];omega)]
 ·refine(qu (Di (ds:=T.map thD) (ρ1:=[.pm e6,RS,TL,HS,Q,J,t6,t7,t8,t9]) (l:=none) (u:=some (j:Int)) rfl rfl rfl)).trans ?_;rw[CT j (by rw[af];omega)]
 ·rw[<-jm,<- fW,<- aS]
def rwD(w:Wy):L4.D:=.tup [.str w.r,.str w.w]
theorem Jg:∀W:List Wy,um (W.map rwD)=some (W.map λw=>L3.Dq.tup [.str w.r,.str w.w])
 |[]=>rfl
 |w::W=>by rw[aG];unfold um;rw[Jg W];rfl
theorem Vy(r x:Str)(W:List Wy):dNiT (.tup [.str r,.str x]) (.lst (W.map rwD))=some (.bl (!decide ([r,x]∈W.map λw=>[w.r,w.w]))):=by
 unfold dNiT;dsimp only;rw[show toD (.tup [.str r,.str x])=some (.tup [.str r,.str x]) from rfl,Jg];dsimp only;rw[ah]
 ·congr 3;rw[cE,dA,bw,az];constructor
  ·rintro⟨e,he,h⟩;obtain⟨w,hw,rfl⟩:=az.mp he;have h:((w.r==r)&&((w.w==x)&&true))=true:=h;rw[aF,aF,beq_iff_eq,beq_iff_eq]at h;exact⟨w,hw,by rw[h.1,h.2.1]⟩
  ·rintro⟨w,hw,h⟩;refine⟨_,az.mpr ⟨w,hw,rfl⟩,?_⟩;have h1:w.r=r/\w.w=x:=by simpa using h
   show ((w.r==r)&&((w.w==x)&&true))=true;rw[h1.1,h1.2];simp
 ·rw[aF];refine⟨rfl,aE.mpr λe he=>?_⟩;obtain⟨w,hw,rfl⟩:=az.mp he;rfl
def wB:FS:=(pA (p6 7 (c2 dIx (cV 3) (p8 pq 0 (a1 (c1 qR (cV 3))))))
 (pA (p6 8 (c2 dIx (cL (pN (aCons (cS "north") (aCons (cS "up") (aCons (cS "outside") (a1 (cS "north"))))))) (p8 pq 0 (a1 (cC (.int 4))))))
 (pA (p6 9 (c2 dIx (cV 3) (p8 pq 0 (a1 (c1 qR (cV 3))))))
 (pA (p6 10 (c2 dIx (cV 4) (p8 pq 0 (a1 (c1 qR (cV 4))))))
 (sIf (uo (cT (c2 dNiT (qd (aCons (cV 7) (a1 (cV 8)))) (cL (pH 1 [] (iL (cV 5)) (gN 0) qg (Hr (cV 0) none (some 2))))))) (qb (vT 5 (qd (aCons (cV 7) (aCons (cV 8) (aCons (cV 9) (a1 (cV 10)))))))) pQ)))))
section
variable{T:List Th}{M:List Mk}{es:List L4.D}
def drL(T:List Th)(M:List Mk):List (Option Str):=none::none::(M.map Mk.n++(T.filter λt=>t.k.mk).map Th.n).map some
theorem TH{m:Option Str}(h:m∈drL T M)(e:m=some x):x∈mkN T M:=by
 subst e;have h:some x∈(M.map Mk.n++(T.filter λt=>t.k.mk).map Th.n).map some:=by simpa [drL]using h
 obtain⟨y,hy,e⟩:=az.mp h;cases e;rcases aQ.mp hy with hy|hy
 ·exact aZ _ hy
 ·exact bg _ hy
theorem MY(hr:rmN T≠[])(lr:(rmN T).length<=13)(ld:(drL T M).length<=20)(h:qp es)(W:List Wy)(lW:W.length<=900)(ok:∀w∈W,E9 T M w)(nd:(W.map λw=>[w.r,w.w]).Nodup)(a b s6 s7 s8 s9 s10:Sl):
  ∃(es':List L4.D) (W':List Wy) (t7 t8 t9 t10:Sl),qp es'/\W'.length<=W.length+1/\(∀w∈W',E9 T M w)/\(W'.map λw=>[w.r,w.w]).Nodup/\
   wB [.pm es,a,b,.im (.lst ((rmN T).map D.str)),.im (.lst ((drL T M).map oS)),.ls (W.map wyO),s6,s7,s8,s9,s10]=some (.nx [.pm es',a,b,.im (.lst ((rmN T).map D.str)),.im (.lst ((drL T M).map oS)),.ls (W'.map wyO),s6,t7,t8,t9,t10]):=by
 let RM:Sl:=.im (.lst ((rmN T).map D.str));let DR:Sl:=.im (.lst ((drL T M).map oS));let WS:Sl:=.ls (W.map wyO);obtain⟨d1,hd1,e1,x1,h1⟩:=pk (i:=0) (e:=cV 3) (a:=c1 qR (cV 3)) (L:=(rmN T).map D.str) (λes=>[.pm es,a,b,RM,DR,WS,s6,s7,s8,s9,s10]) (λ_=>rfl) (λ_ _=>rfl) rfl rfl h (by simpa using hr) (by rw[af];omega);obtain⟨r,hr1,rfl⟩:=az.mp hd1;let X:Sl:=.im (.str r);obtain⟨x,hx,e2,x2,h2⟩:=HG (i:=0) (c:=4) (e:=cL (pN (aCons (cS "north") (aCons (cS "up") (aCons (cS "outside") (a1 (cS "north"))))))) ["north", "up", "outside", "north"] (λes=>[.pm es,a,b,RM,DR,WS,s6,X,s8,s9,s10]) (λ_=>rfl) (λ_ _=>rfl) rfl h1 rfl (by decide) (by decide);let Y:Sl:=.im (.str x);obtain⟨d3,hd3,e3,x3,h3⟩:=pk (i:=0) (e:=cV 3) (a:=c1 qR (cV 3)) (L:=(rmN T).map D.str) (λes=>[.pm es,a,b,RM,DR,WS,s6,X,Y,s9,s10]) (λ_=>rfl) (λ_ _=>rfl) rfl rfl h2 (by simpa using hr) (by rw[af];omega);obtain⟨g,hg,rfl⟩:=az.mp hd3;let Z:Sl:=.im (.str g);obtain⟨d4,hd4,e4,x4,h4⟩:=pk (i:=0) (e:=cV 4) (a:=c1 qR (cV 4)) (L:=(drL T M).map oS) (λes=>[.pm es,a,b,RM,DR,WS,s6,X,Y,Z,s10]) (λ_=>rfl) (λ_ _=>rfl) rfl rfl h3 (by simp[drL]) (by rw[af];omega);obtain⟨m,hm,rfl⟩:=az.mp hd4;let O:Sl:=.im (oS m);let w:Wy:=⟨r,x,g,m⟩;have wok:E9 T M w:=⟨hr1,(show ∀x∈(["north", "up", "outside", "north"]:List Str),x∈(["north", "up", "outside"]:List Str) by decide) x hx,hg,λy e=>TH hm e⟩;let ρ:List Sl:=[.pm e4,a,b,RM,DR,WS,s6,X,Y,Z,O];have et:uo (cT (c2 dNiT (qd (aCons (cV 7) (a1 (cV 8)))) (cL (pH 1 [] (iL (cV 5)) (gN 0) qg (Hr (cV 0) none (some 2)))))) ρ=some (!decide ([r,x]∈W.map λw=>[w.r,w.w]),ρ):=by refine EO (ρ1:=ρ.map Sl.bor) (rb (pT (x:=.tup [.str r,.str x]) (y:=.lst (W.map rwD)) (ρ1:=ρ.map Sl.bor) rfl (qu (rQ wyO rwD W (ρ1:=ρ.map Sl.bor) rfl (by omega) λw _=>⟨[.im (wyO w)],[.im (wyO w)],rfl,rfl,rfl⟩)) (Vy r x W)))
 have pre:wB [.pm es,a,b,RM,DR,WS,s6,s7,s8,s9,s10]=sIf (uo (cT (c2 dNiT (qd (aCons (cV 7) (a1 (cV 8)))) (cL (pH 1 [] (iL (cV 5)) (gN 0) qg (Hr (cV 0) none (some 2))))))) (qb (vT 5 (qd (aCons (cV 7) (aCons (cV 8) (aCons (cV 9) (a1 (cV 10)))))))) pQ ρ:=by unfold wB;exact(px ((pO x1).trans rfl)).trans ((px ((pO x2).trans rfl)).trans ((px ((pO x3).trans rfl)).trans (px ((pO x4).trans rfl))))
 by_cases c:[r,x]∈W.map λw=>[w.r,w.w]
 ·rw[aR c]at et;exact⟨e4,W,X,Y,Z,O,h4,by omega,ok,nd,pre.trans ((qz et).trans rfl)⟩
 ·rw[aN c]at et;refine⟨e4,W++[w],X,Y,Z,O,h4,by rw[au];exact aC _,λy hy=>?_,?_,pre.trans ((pR et).trans ((qF (yb (es0:=W.map wyO) (es:=W.map wyO) (ρ1:=ρ) (d:=wyO w) rfl rfl rfl (by rw[af];omega))).trans ?_))⟩
  ·rcases aQ.mp hy with hy|hy
   ·exact ok y hy
   ·rw[aX.mp hy];exact wok
  ·rw[aS,bJ];refine⟨nd,by simp,λy hy z hz e=>c ?_⟩;rw[aG,eA,aX]at hz;rw[e,hz]at hy;exact hy
  ·show some (Out.nx [.pm e4,a,b,RM,DR,.ls (W.map wyO++[wyO w]),s6,X,Y,Z,O])=_;rw[show (W++[w]).map wyO=W.map wyO++[wyO w] by rw[aS];rfl]
theorem Em(hr:rmN T≠[])(lr:(rmN T).length<=13)(ld:(drL T M).length<=20)(a b:Sl):∀(l es:List L4.D) (W:List Wy) (s6 s7 s8 s9 s10:Sl),qp es->W.length+l.length<=900->(∀w∈W,E9 T M w)->(W.map λw=>[w.r,w.w]).Nodup->
  ∃(es':List L4.D) (W':List Wy) (t6 t7 t8 t9 t10:Sl),qp es'/\W'.length<=W.length+l.length/\(∀w∈W',E9 T M w)/\(W'.map λw=>[w.r,w.w]).Nodup/\
   forL (gN 6) wB l [.pm es,a,b,.im (.lst ((rmN T).map D.str)),.im (.lst ((drL T M).map oS)),.ls (W.map wyO),s6,s7,s8,s9,s10]=some (.nx [.pm es',a,b,.im (.lst ((rmN T).map D.str)),.im (.lst ((drL T M).map oS)),.ls (W'.map wyO),t6,t7,t8,t9,t10])
 |[],es,W,s6,s7,s8,s9,s10,h,_,ok,nd=>⟨es,W,s6,s7,s8,s9,s10,h,aC _,ok,nd,rfl⟩
 |d::l,es,W,s6,s7,s8,s9,s10,h,hl,ok,nd=>by rw[aB]at hl;obtain⟨e1,W1,t7,t8,t9,t10,h1,l1,ok1,nd1,x1⟩:=MY hr lr ld h W (by omega) ok nd a b (.im d) s7 s8 s9 s10;obtain⟨e2,W2,u6,u7,u8,u9,u10,h2,l2,ok2,nd2,x2⟩:=Em hr lr ld a b l e1 W1 (.im d) t7 t8 t9 t10 h1 (by omega) ok1 nd1;refine⟨e2,W2,u6,u7,u8,u9,u10,h2,by rw[aB];omega,ok2,nd2,?_⟩;unfold forL;rw[show gN 6 d [.pm es,a,b,.im (.lst ((rmN T).map D.str)),.im (.lst ((drL T M).map oS)),.ls (W.map wyO),s6,s7,s8,s9,s10]=some [.pm es,a,b,.im (.lst ((rmN T).map D.str)),.im (.lst ((drL T M).map oS)),.ls (W.map wyO),.im d,s7,s8,s9,s10] from rfl];simp only[x1];exact x2
theorem Vz(M:List Mk)(K:List Str):([D.non,.non]++M.map λm=>D.str m.n)++K.map D.str=.non::.non::((M.map Mk.n++K).map some).map oS:=by simp[oS,Function.comp_def]
theorem Pc(hT:T.length<=13)(hM:M.length<=4)(hr:rmN T≠[])(h:qp es):∃W es',yG es [TD T,MD M]=some (WD W,es')/\qp es'/\W.length<=8/\(∀w∈W,E9 T M w)/\(W.map λw=>[w.r,w.w]).Nodup:=by
 let A:Sl:=.im (TD T);let B:Sl:=.im (MD M);let U:Sl:=.un;let RM:Sl:=.im (.lst ((rmN T).map D.str));let DR:Sl:=.im (.lst ((drL T M).map oS));let K:=(T.filter λt=>t.k.mk).map Th.n;have lK:K.length<=13:=by show (cn Th.n _).length<=13;rw[af];exact bc (b9 _ _) hT
 have lr:(rmN T).length<=13:=by unfold rmN;rw[af];exact bc (b9 _ _) hT
 have ld:(drL T M).length<=20:=by unfold drL;rw[aB,aB,af,au,af];show M.length+K.length+1+1<=20;omega
 obtain⟨d,e1,x1,p0,p1,h1⟩:=dgx (i:=0) (b:=9) (a:=cC (.int 9)) (λes=>[.pm es,A,B,RM,DR,.ls [],U,U,U,U,U]) (λ_=>rfl) (λ_ _=>rfl) rfl h (by decide) (by decide);obtain⟨n,rfl⟩:=bL p0;obtain⟨e2,W,t6,t7,t8,t9,t10,h2,lW,ok,nd,x2⟩:=Em hr lr ld A B ((aL n).map λk:Nat=>D.int (k:Nat)) e1 [] U U U U U h1 (by simp;omega) (λw hw=>(by cases hw)) .nil;rw[af,cb]at lW;simp only[de]at lW;refine⟨W,e2,AA (ρ:=[.pm e2,A,B,RM,DR,.un,t6,t7,t8,t9,t10]) rfl ?_ rfl,h2,by omega,ok,nd⟩;unfold yF;refine(px (ρ':=[.pm es,A,B,RM,U,U,U,U,U,U,U]) ((pO (qu (pz (g:=pS) (ds:=[TD T,.lst ((["room"]:List Str).map D.str)]) (ρ1:=[.pm es,A,B,U,U,U,U,U,U,U,U]) rfl (uu T (by omega) ["room"] (λk=>decide (k=.room)) HF)))).trans rfl)).trans ?_;let ρ:List Sl:=[.pm es,A,B,RM,U,U,U,U,U,U,U];refine(px (ρ':=[.pm es,A,B,RM,DR,U,U,U,U,U,U]) ((pO (qu (qP (xs:=[.non,.non]++M.map λm=>D.str m.n) (ys:=K.map D.str) (ρ1:=ρ) (ρ2:=ρ) ?_ ?_ ?_))).trans ?_)).trans ?_
 ·exact qu (qP (xs:=[.non,.non]) (ρ1:=ρ) rfl (qu (rQ mkD (λm=>D.str m.n) M (ρ1:=ρ) rfl (by omega) λm _=>⟨[.im (mkD m)],[.im (mkD m)],rfl,rfl,rfl⟩)) (by rw[af];show 2+M.length<=1000;omega))
 ·exact qu (pz (g:=pS) (ds:=[TD T,.lst ((["box", "lamp"]:List Str).map D.str)]) (ρ1:=ρ) rfl (uu T (by omega) ["box", "lamp"] Kd.mk MN))
 ·rw[au,af,af];show 2+M.length+K.length<=1000;omega
 ·show some (Out.nx [.pm es,A,B,RM,.im (.lst (([.non,.non]++M.map λm=>D.str m.n)++K.map D.str)),U,U,U,U,U,U])=_;rw[show ([.non,.non]++M.map λm=>D.str m.n)++K.map D.str=(drL T M).map oS from Vz M K]
 refine(px (ρ':=[.pm es,A,B,RM,DR,.ls [],U,U,U,U,U]) rfl).trans ?_;exact(px (ρ':=[.pm e2,A,B,RM,DR,.ls (W.map wyO),t6,t7,t8,t9,t10]) ((sG (MS (ρ1:=[.pm e1,A,B,RM,DR,.ls [],U,U,U,U,U]) x1 (by omega))).trans x2)).trans rfl
end
theorem TJ:((aL 7).all λtn=>(aL 8).all λn=>decide (rmL++("me" : Str)::((aL n).map λk=>(DF ((k+tn) % 7)).1)++mkL).Nodup)=true:=by kernel_rfl
theorem Ki{α:Type}(l:List α)(j:Nat):(l.drop j++l.take j).Perm l:=(List.perm_append_comm).trans (by rw[List.take_append_drop])
variable{T0:List Th}
theorem MZ(p:T.Perm T0){t:Th}(h:E6 T0 t):Ak T t:=by
 have hr:∀u∈T0,u.k=.room->u.n∈rmN T:=λu hu hk=>bM (bp.mpr ⟨p.mem_iff.mpr hu,aR hk⟩);have hh:∀u∈T0,u.k.hd=true->u.n∈hdN T:=λu hu hk=>bM (bp.mpr ⟨p.mem_iff.mpr hu,hk⟩);obtain⟨n,w,k,s⟩:=t;rcases h with ⟨h1,h2⟩|⟨h1,u,hu,h2,h3⟩|⟨h1,u,hu,h2,h3⟩
 ·simp only at h1 h2;subst h1 h2;exact trivial
 ·simp only at h1 h2;subst h1 h2;exact hr u hu h3
 ·simp only at h1 h2;subst h2;cases k with
  |room=>cases h1
  |you=>cases h1
  |plain=>exact hh u hu h3
  |fixed=>exact hh u hu h3
  |box=>exact hh u hu h3
  |lamp=>exact hh u hu h3
structure Base(T:List Th):Prop where
 len:T.length<=13
 r1:1<=(T.filter λt=>decide (t.k=.room)).length
 r5:(T.filter λt=>decide (t.k=.room)).length<=5
 y1:(T.filter λt=>decide (t.k=.you)).map Th.n=(["me"]:List Str)
 p7:(T.filter λt=>t.k.pl).length<=7
 nd:∀m,(T.map Th.n++mkL.take m).Nodup
 nm:∀x∈T.map Th.n,Nm x
 st:∀t∈T,Ak T t
 rk:∃r,E5 T r
 wd:∀t∈T,yT t
theorem Pd(d:HL T0)(j:Nat):Base (T0.drop j++T0.take j):=by
 have p:=Ki T0 j;obtain⟨r,tn,n,y,P,r1,r5,ht,hn,e0,eP,hP⟩:=d.ex;let R:=(rmL.take r).map rmT;let me:Th:=⟨"me", ["me", "self"],.you,some y⟩;have lR:R.length=r:=by show ((rmL.take r).map rmT).length=r;rw[af,bz];show min r 5=r;omega
 have lP:P.length=n:=by have:=bj cg eP;rw[af,af,cb]at this;exact this
 have rk:∀t∈R,t.k=.room:=λt h=>by obtain⟨x,_,rfl⟩:=az.mp h;rfl
 have spl:∀p:Th->Bool,T0.filter p=R.filter p++((if p me=true then [me]else [])++P.filter p):=λp=>by rw[e0,List.filter_append,i7];show R.filter p++(if p me=true then me::P.filter p else P.filter p)=_;split<;>rfl
 have all_:∀(p:Kd->Bool) (L:List Th),(∀t∈L,p t.k=true)->L.filter (λt=>p t.k)=L:=λp L h=>ky.mpr h;have non_:∀(p:Kd->Bool) (L:List Th),(∀t∈L,p t.k=false)->L.filter (λt=>p t.k)=[]:=λp L h=>j4.mpr λt ht z=>by rw[h t ht]at z;cases z
 have plk:∀k:Kd,k.pl=true->decide (k=.room)=false/\decide (k=.you)=false:=AR (λz=>by cases z) (λz=>by cases z) (λ_=>⟨rfl,rfl⟩) (λ_=>⟨rfl,rfl⟩) (λ_=>⟨rfl,rfl⟩) (λ_=>⟨rfl,rfl⟩);have fr:T0.filter (λt=>decide (t.k=.room))=R:=by rw[spl,all_ (λk=>decide (k=.room)) R λt h=>by rw[rk t h];rfl,non_ (λk=>decide (k=.room)) P λt h=>(plk t.k (hP t h)).1];exact bA R
 have fy:T0.filter (λt=>decide (t.k=.you))=[me]:=by rw[spl,non_ (λk=>decide (k=.you)) R λt h=>by rw[rk t h];rfl,non_ (λk=>decide (k=.you)) P λt h=>(plk t.k (hP t h)).2];rfl
 have fp:T0.filter (λt=>t.k.pl)=P:=by rw[spl,non_ Kd.pl R λt h=>by rw[rk t h];rfl,all_ Kd.pl P hP];rfl
 have eN:T0.map Th.n=rmL.take r++("me" : Str)::(aL n).map λk=>(DF ((k+tn) % 7)).1:=by
  rw[e0,aS,aG];have e1:((rmL.take r).map rmT).map Th.n=rmL.take r:=by rw[aJ];exact eB _
  have e2:P.map Th.n=(aL n).map λk=>(DF ((k+tn) % 7)).1:=by have:=bj (cn bU) eP;rw[aJ,aJ]at this;exact this
  rw[e1,e2]
 have big:=bx (aE.mp (aE.mp TJ tn (bo.mpr ht)) n (bo.mpr hn));have wP:∀t∈P,t.nw∈plL:=λt h=>by have h1:t.nw∈P.map Th.nw:=bM h;rw[eP]at h1;obtain⟨k,_,e⟩:=az.mp h1;rw[<-e];exact(MX (eC _ (by decide))).1
 have w0:∀t∈T0,yT t:=λt h=>by
  rw[e0]at h;rcases aQ.mp h with h|h
  ·obtain⟨x,hx,rfl⟩:=az.mp h;exact⟨bg _ (az.mpr ⟨x,fJ hx,rfl⟩),λz=>by cases z⟩
  ·rcases aH.mp h with rfl|h
   ·exact⟨aZ _ aP,λz=>by cases z⟩
   ·exact⟨aZ _ (aO _ (wP t h)),λ_=>wP t h⟩
 have nd0:∀m,(T0.map Th.n++mkL.take m).Nodup:=λm=>by rw[eN];exact big.sublist (((fN r rmL).append (pe _)).append (fN m mkL))
 constructor
 ·rw[p.length_eq,e0,au,aB,af,bz,lP];show min r 5+(n+1)<=13;omega
 ·rw[(p.filter _).length_eq,fr,lR];exact r1
 ·rw[(p.filter _).length_eq,fr,lR];exact r5
 ·have:=p.filter λt=>decide (t.k=.you);rw[fy]at this;rw[List.perm_singleton.mp this];rfl
 ·rw[(p.filter _).length_eq,fp,lP];omega
 ·intro m;exact((p.map _).append_right _).nodup_iff.mpr (nd0 m)
 ·intro x hx;have hx:=(p.map Th.n).mem_iff.mp hx;rw[eN]at hx;rcases aQ.mp hx with hx|hx
  ·exact bg _ (bg _ (fJ hx))
  ·refine bg _ (aZ _ ?_);rcases aH.mp hx with rfl|hx
   ·exact aP
   ·obtain⟨k,_,rfl⟩:=az.mp hx;exact aO _ (bM (MX (eC _ (by decide))).1)
 ·intro t ht;exact MZ p (d.ord.all t (p.mem_iff.mp ht))
 ·obtain⟨rk,h⟩:=d.ord.rank (bJ.mp (nd0 0)).1;refine⟨rk,λt ht=>?_⟩;obtain⟨h1,h2⟩:=h t (p.mem_iff.mp ht);refine⟨by rw[p.length_eq];exact h1,λq hq=>?_⟩;obtain⟨h3,u,hu,e⟩:=h2 q hq;exact⟨h3,u,p.mem_iff.mpr hu,e⟩
 ·exact λt ht=>w0 t (p.mem_iff.mp ht)
theorem En(rest:List Sl):∀(l:List Str) (es:List L4.D),qp es->∃(dk:List Str) (es':List L4.D),dk.Sublist l/\qp es'/\
  u5 1 [0] (gN 0) (cT (c2 (dEq false) (p8 pq 1 (a1 (cC (.int 3)))) (cC (.int 0)))) (cV 0) (l.map D.str) (.pm es::rest)=some (dk.map D.str,.pm es'::rest)
 |[],es,h=>⟨[],es,.slnil,h,rfl⟩
 |x::l,es,h=>by
  obtain⟨d,e1,x1,p0,p1,h1⟩:=dgx (i:=1) (b:=3) (a:=cC (.int 3)) (λes=>[.im (.str x),.pm es]) (λ_=>rfl) (λ_ _=>rfl) rfl h (by decide) (by decide);obtain⟨dk,e2,sl,h2,x2⟩:=En rest l e1 h1;have et:cT (c2 (dEq false) (p8 pq 1 (a1 (cC (.int 3)))) (cC (.int 0))) [.im (.str x),.pm es]=some (decide (d=0),[.im (.str x),.pm e1]):=rb (pT (x:=.int d) (y:=.int 0) x1 rfl (uL false d 0));rw[aG];unfold u5;rw[show gN 0 (.str x) (zN 1 [0] (.pm es::rest))=some [.im (.str x),.pm es] from rfl];by_cases c:d=0
  ·rw[aR c]at et;refine⟨x::dk,e2,sl.cons_cons x,h2,?_⟩;simp only[et];rw[show cV 0 [.im (.str x),.pm e1]=some (.str x,[.im (.str x),.pm e1]) from rfl];simp only;rw[show sH [0] (([.im (.str x),.pm e1]:List Sl).drop 1) (.pm es::rest)=some (.pm e1::rest) from rfl];simp only[x2];rfl
  ·rw[aN c]at et;refine⟨dk,e2,sl.cons x,h2,?_⟩;simp only[et];rw[show sH [0] (([.im (.str x),.pm e1]:List Sl).drop 1) (.pm es::rest)=some (.pm e1::rest) from rfl];exact x2
theorem Pe(h:qp es):∃(T:List Th) (M:List Mk) (dk:List Str) (W:List Wy) (t n:Nat) (R es':List L4.D),Good T M dk W/\t<6/\n<7/\R.length<=3/\(∀r∈R,HI (w10 T M dk W (vL t n)) r)/\tH es [.int 3]=some (.lst [TD T,MD M,.lst (dk.map D.str),WD W,VD (vL t n),.lst R],es'):=by
 obtain⟨T0,j,e1,d0,hj,x1,h1⟩:=Kh h;let T:=T0.drop j++T0.take j;have b:Base T:=Pd d0 j;obtain⟨M,e2,x2,h2,mo,m,eM⟩:=MW h1;have lM:M.length<=4:=by have:=bj cg eM;rw[af,bz]at this;rw[this];exact lu _ _
 let A:Sl:=.im (TD T);let B:Sl:=.im (MD M);let Z:Sl:=.im (.int 3);obtain⟨dk,e3,sl,h3,x3⟩:=En [Z,A,B,.un,.un,.un] (rmN T) e2 h2;let DK:Sl:=.im (.lst (dk.map D.str));have rne:rmN T≠[]:=λz=>by have:=b.r1;unfold rmN at z;rw[iK]at z;rw[z]at this;exact ao this (by decide)
 obtain⟨W,e4,x4,h4,lW,okW,ndW⟩:=Pc b.len lM rne h3;obtain⟨t,n,e5,ht,hn,x5,h5⟩:=MV h4;have rmnd:(rmN T).Nodup:=(iJ.map Th.n).nodup (bJ.mp (b.nd 0)).1;have g:Good T M dk W:={
  len:=b.len,r1:=b.r1,r5:=b.r5,y1:=b.y1,p7:=b.p7,m4:=lM,mo:=mo
  nm:=λx hx=>by
   rcases aQ.mp hx with hx|hx
   ·exact b.nm x hx
   ·rw[eM]at hx;exact aZ _ (fJ hx)
  nd:=by rw[eM];exact b.nd m
  st:=b.st,rk:=b.rk,wd:=b.wd
  d0:=bc sl.length_le (by unfold rmN;rw[af];exact b.r5)
  d1:=rmnd.sublist sl
  d2:=λx hx=>sl.subset hx
  w8:=lW,wo:=okW,wn:=ndW }
 obtain⟨R,e6,x6,h6,lR,ok⟩:=MU (V:=vL t n) g (λv hv=>E8 hv) (CW t n) (MC ht hn) h5;refine⟨T,M,dk,W,t,n,R,e6,g,ht,hn,lR,ok,?_⟩;let WS:Sl:=.im (WD W);let VS:Sl:=.im (VD (vL t n));have hl:T.length<=13:=b.len;refine AA (ρ:=[.pm e6,Z,A,B,DK,WS,VS]) rfl ?_ rfl;unfold yH;refine(px (ρ':=[.pm e1,Z,A,.un,.un,.un,.un]) ((pO (sR (es0:=es) (es:=es) (ds:=[]) (ρ1:=[.pm es,Z,.un,.un,.un,.un,.un]) rfl rfl rfl x1)).trans rfl)).trans ?_;refine(px (ρ':=[.pm e2,Z,A,B,.un,.un,.un]) ((pO (sR (es0:=e1) (es:=e1) (ds:=[]) (ρ1:=[.pm e1,Z,A,.un,.un,.un,.un]) rfl rfl rfl x2)).trans rfl)).trans ?_;refine(px (ρ':=[.pm e3,Z,A,B,DK,.un,.un]) ((pO (qu ((zT (ds:=(rmN T).map D.str) (ρ1:=[.pm e2,Z,A,B,.un,.un,.un]) ?_ (by rw[af];unfold rmN;rw[af];have:=b.r5;omega)).trans x3))).trans rfl)).trans ?_
 ·unfold iL;rw[qu (pz (g:=pS) (ds:=[TD T,.lst ((["room"]:List Str).map D.str)]) (ρ1:=[.pm e2,Z,A,B,.un,.un,.un]) rfl (uu T (by omega) ["room"] (λk=>decide (k=.room)) HF))];rfl
 refine(px (ρ':=[.pm e4,Z,A,B,DK,WS,.un]) ((pO (sR (es0:=e3) (es:=e3) (ds:=[TD T,MD M]) (ρ1:=[.pm e3,Z,A,B,DK,.un,.un]) rfl rfl rfl x4)).trans rfl)).trans ?_;refine(px (ρ':=[.pm e5,Z,A,B,DK,WS,VS]) ((pO (sR (es0:=e4) (es:=e4) (ds:=[]) (ρ1:=[.pm e4,Z,A,B,DK,WS,.un]) rfl rfl rfl x5)).trans rfl)).trans ?_;exact se (Ly (pB rfl (pB rfl (pB rfl (pB rfl (pB rfl (pB ((sR (es0:=e5) (es:=e5) (ds:=[TD T,MD M,VD (vL t n),.int 3]) (ρ1:=[.pm e5,Z,A,B,DK,WS,VS]) rfl rfl rfl x6).trans rfl) rfl)))))) (by show 6<=1000;decide))
def wtL(w:Wy):List L4.D:=[atO "me" w.r,woO w.w]++match w.m with|none=>[]|some m=>[noO (mkO m 0)]
def goO(w:Wy):L4.D:=ruO "go" (wtL w) [mvO "me" w.g] "You go." false
def A21:List L4.D:=(xu [.str "me"]).getD []++(yu []).getD []++(yw []).getD []++(we []).getD []
def SH(W:List Wy):List L4.D:=A21++(W.map goO++[ruO "go" [] [] "No way there." true])++[ruO "wait" [] [] "Time goes by." false]
theorem VA(w:Wy):yx [.str "me", wyO w]=some (wtL w):=by obtain⟨r,x,g,m⟩:=w;cases m<;>kernel_rfl
theorem Pf(w:Wy):vx [.str "go", .lst (wtL w),.lst [mvO "me" w.g],.str "You go."]=some (goO w):=by kernel_rfl
theorem VB(W:List Wy)(hl:W.length<=8):zt [.str "me", WD W]=some (W.map goO++[ruO "go" [] [] "No way there." true]):=by
 let ρ:List Sl:=[.im (.str "me"),.im (WD W),.un];let σ:List Sl:=[.im (.str "me"),.im (WD W),.im (.lst (W.map goO))];refine vc (ρ:=σ) rfl ?_;unfold zr;refine(px (ρ':=σ) ((pO (qu (rQ wyO goO W (ρ1:=ρ) rfl (by omega) λw _=>⟨[.im (wyO w),.im (.str "me")],[.im (wyO w),.im (.str "me")],rfl,?_,rfl⟩))).trans rfl)).trans ?_
 ·exact pz (ds:=[.str "go", .lst (wtL w),.lst [mvO "me" w.g],.str "You go."]) (pB rfl (pB (qu (pz (ds:=[.str "me", wyO w]) rfl (VA w))) (pB rfl (pB rfl rfl)))) (Pf w)
 ·exact se (qP (xs:=W.map goO) (ys:=[ruO "go" [] [] "No way there." true]) (ρ1:=σ) rfl (by kernel_rfl) (by rw[af];show W.length+1<=1000;omega))
theorem Jh:A21.length<=50:=iB (by kernel_rfl)
theorem TM{W:List Wy}(hl:W.length<=8):(SH W).length<=100:=by have:=Jh;unfold SH;rw[au,au,au,af];show A21.length+(W.length+1)+1<=100;omega
theorem Kj(W:List Wy)(hl:W.length<=8):vy [.str "me", WD W]=some (SH W):=by
 have:=Jh;let ρ:List Sl:=[.im (.str "me"),.im (WD W)];refine vc (ρ:=ρ) rfl (se (qP (xs:=A21++(W.map goO++[ruO "go" [] [] "No way there." true])) (ys:=[ruO "wait" [] [] "Time goes by." false]) (ρ1:=ρ) (qu (qP (xs:=A21) (ρ1:=ρ) (by kernel_rfl) (qu (pz (ds:=[.str "me", WD W]) rfl (VB W hl))) ?_)) (by kernel_rfl) ?_))
 ·rw[au,af];show A21.length+(W.length+1)<=1000;omega
 ·rw[au,au,af];show A21.length+(W.length+1)+1<=1000;omega
theorem PR(W:List Wy):∀d∈SH W,gK d=true:=λd hd=>by
 unfold SH at hd;rcases aQ.mp hd with hd|hd
 ·rcases aQ.mp hd with hd|hd
  ·exact aE.mp (show A21.all gK=true by kernel_rfl) d hd
  ·rcases aQ.mp hd with hd|hd
   ·obtain⟨w,_,rfl⟩:=az.mp hd;obtain⟨r,x,g,m⟩:=w;cases m<;>kernel_rfl
   ·rw[aX.mp hd];kernel_rfl
 ·rw[aX.mp hd];kernel_rfl
theorem TN(h:gK d=true):noC 16 14 d=true:=by unfold gK at h;rw[aF]at h;exact h.2
variable{ns:List Str}{r:List Sl}
section
variable{T:List Th}{M:List Mk}{dk:List Str}{W:List Wy}{V:List Vb}{R:List L4.D}
def wA(T:List Th)(M:List Mk)(dk:List Str)(W:List Wy)(V:List Vb)(R:List L4.D)(c:L4.D):List L4.D:=[TD T,MD M,.lst (dk.map D.str),WD W,VD V,VD v9,.str "me", .dic (nK T) (T.map thD),mD T M,vwD (V++v9),.lst R,.lst (SH W),.lst R,c]
def wS(T:List Th)(M:List Mk)(dk:List Str)(W:List Wy)(V:List Vb)(R:List L4.D)(c:L4.D)(q:Sl)(k:Nat):List Sl:=[.ob 14 (wNs.take k) ((wA T M dk W V R c).take k),.im (TD T),.im (MD M),.im (.lst (dk.map D.str)),.im (WD W),.im (VD V),.im (.lst R),q]
theorem Gu{r':List Sl}(h1:e (.im (.obj 14 ns ds)::r.map vY)=some (d,r'))(h2:noC 16 14 d=true):y6 16 e (.ob 14 ns ds::r)=some (d,.ob 14 ns ds::r):=by unfold y6;simp only[h1,h2];rfl
theorem Dk{nm:Str}(h1:e (.ob 14 ns ds::r)=some (d,.ob 14 ns ds::r))(h2:ns.contains nm=false)(h3:ds.length=ns.length)(h4:ns.length<900):qq 14 0 nm e (.ob 14 ns ds::r)=some (.nx (.ob 14 (ns++[nm]) (ds++[d])::r)):=by unfold qq;rw[h1];show (if 14=14 then if ns.contains nm=true then none else if ds.length=ns.length then if ns.length<900 then some (Out.nx (.ob 14 (ns++[nm]) (ds++[d])::r))else none else none else none)=_;rw[ah rfl,h2,aj aT,ah h3,ah h4]
theorem An(V:List Vb)(lV:V.length<=6)(a b c d:L4.D)(ns:List Str)(ds:List L4.D):sg [.obj 14 ("kept_things" ::"kept_marks" ::"kept_dark" ::"kept_ways" ::"kept_verbs" ::"shared_verbs" ::ns) (a::b::c::d::VD V::VD v9::ds)]=some (VD (V++v9)):=by refine(EU (ρ:=[.im (.obj 14 ("kept_things" ::"kept_marks" ::"kept_dark" ::"kept_ways" ::"kept_verbs" ::"shared_verbs" ::ns) (a::b::c::d::VD V::VD v9::ds))]) rfl (se (qP (xs:=V.map vbO) (ys:=v9.map vbO) rfl rfl (by rw[af];show V.length+9<=1000;omega)))).trans ?_;rw[<-aS]
theorem TQ(h6:∀v∈V,v∈v6):noC 16 14 (vwD (V++v9))=true:=by
 show uA 16 14 _=true;refine wR _ λd hd=>?_;obtain⟨v,hv,hd⟩:=c9.mp hd;obtain⟨x,_,rfl⟩:=az.mp hd;refine aE.mp (show ((v6++v9).all λv=>noC 16 14 (vbO v))=true by kernel_rfl) v ?_;rcases aQ.mp hv with hv|hv
 ·exact bg _ (h6 v hv)
 ·exact aZ _ hv
theorem M0(g:Good T M dk W){n:Nat}(ht:t<6)(hn:n<7)(hR:∀r∈R,HI (w10 T M dk W (vL t n)) r)(lR:R.length<=3):∃c,tW [TD T,MD M,.lst (dk.map D.str),WD W,VD (vL t n),.lst R]=some (wNs,wA T M dk W (vL t n) R c):=by
 have hs:=TM g.w8;have hl:=g.len;let V:=vL t n;have lV:V.length<=6:=CW t n;have hg:∀d∈R++SH W,gK d=true:=λd hd=>by
  rcases aQ.mp hd with hd|hd
  ·exact(hR d hd).g
  ·exact PR W d hd
 obtain⟨ks,dss,g1,g3⟩:=MR (R++SH W) [] [] hg rfl (by rw[au];simp only[de];omega) λds h=>(by cases h);let c:L4.D:=.dic ks (dss.map .lst);refine⟨c,?_⟩;let B:Sl:=.im (.bl true);have nc:noC 16 14 c=true:=by show uA 16 14 (dss.map .lst)=true;exact wR _ λd hd=>by obtain⟨ds,h,rfl⟩:=az.mp hd;exact g3 ds h
 let S:=wS T M dk W V R c;have e:tV (S .un 0)=some (.nx (S B 14)):=by
  unfold tV;refine(px (ρ':=S .un 0) (qF (pz (ds:=[TD T,MD M,.lst (dk.map D.str),WD W,VD V,VD v9]) (pB rfl (pB rfl (pB rfl (pB rfl (pB rfl (pB (qu (pz (ds:=[]) rfl MB)) rfl)))))) (Dc g ht hn)))).trans ?_;refine(px (ρ':=S .un 1) (by kernel_rfl)).trans ((px (ρ':=S .un 2) (by kernel_rfl)).trans ((px (ρ':=S .un 3) (by kernel_rfl)).trans ((px (ρ':=S .un 4) (by kernel_rfl)).trans ((px (ρ':=S .un 5) (by kernel_rfl)).trans ((px (ρ':=S .un 6) (by kernel_rfl)).trans ?_)))));have eY:((T.filter λt=>decide (t.k=.you)).map λt=>D.str t.n)=[.str "me"]:=by rw[show (λt:Th=>D.str t.n)=D.str∘Th.n from rfl,<- aJ,g.y1];rfl
  refine(px (ρ':=S .un 7) (Dk (r:=(S .un 6).tail) (Gu (d:=.str "me") (r':=(.im (.obj 14 (wNs.take 6) ((wA T M dk W V R c).take 6)))::((S .un 6).tail).map vY) (pT (x:=.lst [.str "me"]) (rE (xs:=(wA T M dk W V R c).take 6) (ys:=[.str Kd.you.s]) (hh:=uH) rfl rfl rfl rfl ((HE T (by omega) _ _ .you).trans (by rw[eY]))) rfl rfl) rfl) rfl rfl (by decide))).trans ?_;refine(px (ρ':=S .un 8) (Dk (r:=(S .un 7).tail) (pz (ds:=[TD T]) rfl (HC T (by omega) g.ndT)) rfl rfl (by decide))).trans ?_;refine(px (ρ':=S .un 9) (Dk (r:=(S .un 8).tail) (pz (ds:=[TD T,MD M]) rfl (MF g)) rfl rfl (by decide))).trans ?_;refine(px (ρ':=S .un 10) (Dk (r:=(S .un 9).tail) (Gu (r':=(.im (.obj 14 (wNs.take 9) ((wA T M dk W V R c).take 9)))::((S .un 9).tail).map vY) (pz (ds:=[VD (V++v9)]) (pB (rE (xs:=(wA T M dk W V R c).take 9) (ys:=[]) (hh:=sg) rfl rfl rfl rfl (An V lV _ _ _ _ _ _)) rfl) (Vl ht hn)) (TQ λv hv=>E8 hv)) rfl rfl (by decide))).trans ?_;refine(px (ρ':=S B 10) ((pO (i:=7) (ρ':=S .un 10) (Gu (d:=.bl true) (r:=(S .un 10).tail) ((qj (ρ1:=.im (w10 T M dk W V)::(S .un 10).tail) (pz (pB rfl (pB rfl rfl)) (Ja _ _ (by omega)))).trans (ug id R (by rw[eB];rfl) (by omega) λr hr=>?_)) rfl)).trans rfl)).trans ?_
  ·exact⟨[.im r,.im (w10 T M dk W V)],[.im r,.im (w10 T M dk W V)],rfl,pz (ds:=[w10 T M dk W V,r]) rfl (hR r hr).r,rfl⟩
  refine(px (ρ':=S B 10) (by kernel_rfl)).trans ((px (ρ':=S B 11) (by kernel_rfl)).trans ?_);refine(px (ρ':=S B 12) (Dk (r:=(S B 11).tail) (Gu (d:=.lst (SH W)) (r':=(.im (.obj 14 (wNs.take 11) ((wA T M dk W V R c).take 11)))::((S B 11).tail).map vY) (qu (pz (ds:=[.str "me", WD W]) rfl (Kj W g.w8))) (wR _ λd hd=>TN (PR W d hd))) rfl rfl (by decide))).trans ?_;refine(px (ρ':=S B 13) (Dk (r:=(S B 12).tail) ((qu (rQ (ρ1:=S B 12) id id R (by rw[eB];rfl) (by omega) λr hr=>⟨[.im r],[.im r],rfl,pz (ds:=[r]) rfl (hR r hr).c,rfl⟩)).trans (by rw[eB];rfl)) rfl rfl (by decide))).trans ?_;refine Dk (r:=(S B 13).tail) (Gu (pz (ds:=[.lst (R++SH W)]) (pB (qu (qP (xs:=R) (ys:=SH W) rfl rfl (by omega))) rfl) (r:=c) ?_) nc) rfl rfl (by decide);refine qk (ρ:=[.im (.lst (R++SH W)),.un,.un]) rfl ?_;show (match ye (pG tR "verb") (R++SH W) [] []with
   |some (ks,dss)=>some (Out.rt (.dic ks (dss.map .lst)) [.im (.lst (R++SH W)),.un,.un])
   |none=>none)=_
  rw[g1]
 unfold tW fnI;rw[ah (show [TD T,MD M,.lst (dk.map D.str),WD W,VD V,.lst R].length=6 from rfl)];rw[show tV (stI 14 8 [TD T,MD M,.lst (dk.map D.str),WD W,VD V,.lst R])=some (.nx (S B 14)) from e];rfl
end
theorem Eo:∀l:List Str,A6 (l.map D.str)=some l
 |[]=>rfl
 |x::l=>by rw[aG];unfold A6;rw[Eo l]
def w3:List Str:=["north", "outside", "up"]
def wdN(W:List Wy):List Str:=w3.filter λx=>decide (x∈W.map Wy.w)
theorem Pg(h:∀x∈l,x∈w3):yf (uqK l)=w3.filter λx=>decide (x∈l):=by
 have n3:w3.Nodup:=by decide
 have p3:w3.Pairwise λa b=>leS a b=true:=by decide
 refine ix (λa b _ _=>Ct a b) (gA Cs BL _) (p3.filter _) ((fL _ leS).trans ((List.perm_ext_iff_of_nodup (Hu l) (iJ.nodup n3)).mpr λx=>?_));rw[E1,bp,bw];exact⟨λhx=>⟨h x hx,hx⟩,λhx=>hx.2⟩
variable{N Dw:List Str}
section
variable{T:List Th}{M:List Mk}{dk:List Str}{W:List Wy}{V:List Vb}{R:List L4.D}{c:L4.D}
def wO(T:List Th)(M:List Mk)(dk:List Str)(W:List Wy)(V:List Vb)(R:List L4.D)(c:L4.D):L4.D:=.obj 14 wNs (wA T M dk W V R c)
theorem M3(h8:W.length<=8)(hw:∀w∈W,w.w∈(["north", "up", "outside"]:List Str)):tX [wO T M dk W V R c]=some (.lst ((wdN W).map D.str)):=by
 let ρ:List Sl:=[.im (wO T M dk W V R c)];refine EU (ρ:=ρ) rfl (se ?_);have e:cL (pH 1 [] (iL (c1 (pG vZ "kept_ways") (cV 0))) (gN 0) qg (c2 dIx (cV 0) (cC (.int 1)))) ρ=some (.lst ((W.map Wy.w).map D.str),ρ):=(qu (rQ wyO (λw=>.str w.w) W (ρ1:=ρ) rfl (by omega) λw _=>⟨[.im (wyO w)],[.im (wyO w)],rfl,rfl,rfl⟩)).trans (by rw[aJ];rfl);show cSortX _ ρ=_;unfold cSortX;rw[e];dsimp only;rw[Eo];dsimp only;rw[ah (by rw[af];omega),Pg λx hx=>?_]
 ·rfl
 ·obtain⟨w,h,rfl⟩:=az.mp hx;exact(show ∀x∈(["north", "up", "outside"]:List Str),x∈w3 by decide) _ (hw w h)
def plN(T:List Th):List Str:=(T.filter λt=>t.k.pl).map Th.n
theorem M4(T:List Th)(hl:T.length<=13):wj [wO T M dk W V R c]=some (.lst (T.map λt=>.str t.n)):=by let ρ:List Sl:=[.im (wO T M dk W V R c)];exact EU (ρ:=ρ) rfl (se (rQ thD (λt=>.str t.n) T (ρ1:=ρ) rfl (by omega) λt _=>⟨[.im (thD t)],[.im (thD t)],rfl,rfl,rfl⟩))
theorem AU{f h:FS}{ρ':List Sl}(e:f ρ=some (.rn ds ρ')):pA f h ρ=some (.rn ds ρ'):=by unfold pA;rw[e]
def obF(N Dw:List Str)(f:Str):List (L4.D×L4.D):=if f="alone" then [(.non,.non)]else if f="way" then Dw.map λx=>(.str x,.non)else if f="one" then N.map λx=>(.str x,.non)else N.flatMap λa=>N.map λb=>(.str a,.str b)
def p2(q:L4.D×L4.D):L4.D:=.tup [q.1,q.2]
def p3(v:Str)(q:L4.D×L4.D):L4.D:=.tup [.str v,q.1,q.2]
theorem Ji(N:List Str)(hN:N.length<=7):∀l:List Str,(l.flatMap λa=>N.map λb=>(D.str a,D.str b)).length<=7 * l.length
 |[]=>aC _
 |a::l=>by rw[cZ,au,af,aB];have:=Ji N hN l;omega
theorem Fe(W:List Wy):(wdN W).length<=3:=bc (b9 _ _) (aC 3)
theorem HM(hN:N.length<=7)(hD:Dw.length<=3)(f:Str):(obF N Dw f).length<=49:=by
 unfold obF;split
 ·decide
 ·split
  ·rw[af];omega
  ·split
   ·rw[af];omega
   ·have:=Ji N hN N;omega
theorem Gv{a b x:Sl}(N:List Str)(hN:N.length<=7):∀(l:List Str) (acc:List (L4.D×L4.D)) (s:Sl),acc.length+7 * l.length<=900->∃s',forL (gN 4) (qb (Bw 3 (pH 1 [4] (iL (cV 2)) (gN 0) qg (qd (aCons (cV 1) (a1 (cV 0))))))) (l.map D.str) [a,b,.im (.lst (N.map D.str)),.ls (acc.map p2),s]=some (.nx [a,b,.im (.lst (N.map D.str)),.ls ((acc++l.flatMap λa=>N.map λb=>(D.str a,D.str b)).map p2),s'])
 |[],acc,s,_=>⟨s,by rw[List.flatMap_nil,bA];rfl⟩
 |y::l,acc,s,hl=>by rw[aB]at hl;let Q:Sl:=.im (.lst (N.map D.str));let Y:Sl:=.im (.str y);let nw:List (L4.D×L4.D):=N.map λb=>(D.str y,D.str b);obtain⟨s',e⟩:=Gv (a:=a) (b:=b) (x:=x) N hN l (acc++nw) Y (by rw[au];show acc.length+(N.map _).length+7 * l.length<=900;rw[af];omega);refine⟨s',?_⟩;rw[aG];unfold forL;let ρ:List Sl:=[a,b,Q,.ls (acc.map p2),Y];rw[show gN 4 (.str y) [a,b,Q,.ls (acc.map p2),s]=some ρ from rfl];have ec:pH 1 [4] (iL (cV 2)) (gN 0) qg (qd (aCons (cV 1) (a1 (cV 0)))) ρ=some (nw.map p2,ρ):=(rQ D.str (λz=>.tup [.str y,.str z]) N (ρ1:=ρ) rfl (by omega) λz _=>⟨[.im (.str z),Y],[.im (.str z),Y],rfl,rfl,rfl⟩).trans (by show _=some ((N.map _).map p2,ρ);rw[aJ];rfl);have e1:qb (Bw 3 (pH 1 [4] (iL (cV 2)) (gN 0) qg (qd (aCons (cV 1) (a1 (cV 0)))))) ρ=some (.nx [a,b,Q,.ls ((acc++nw).map p2),Y]):=(qF (LA (i:=3) (es0:=acc.map p2) (es:=acc.map p2) (ρ1:=ρ) rfl ec rfl (by rw[af,af];show acc.length+(N.map _).length<=1000;rw[af];omega))).trans (by rw[aS];rfl);simp only[e1];rw[e,cZ,bq]
theorem HN(g:Good T M dk W)(hf:f∈fms):rW [wO T M dk W V R c,.str f]=some ((obF (plN T) (wdN W) f).map p2):=by
 have hl:=g.len;let w:=wO T M dk W V R c;have lN:(plN T).length<=7:=by unfold plN;rw[af];exact g.p7
 have ld:=Fe W;have nms:∀F:Sl,pH 1 [0] (iL (qB tE "names" (cV 0) qe)) (gN 0) (cT (qB qY "is_plainly" (qB rM "thing_of" (cV 1) (a1 (cV 0))) qe)) (cV 0) [.im w,F,.un,.un,.un]=some ((plN T).map D.str,[.im w,F,.un,.un,.un]):=λF=>by
  let ρ:List Sl:=[.im w,F,.un,.un,.un];refine(uf (λt:Th=>D.str t.n) (λt=>.str t.n) (λt=>t.k.pl) T (ρ1:=ρ) ?_ (by omega) λt ht=>⟨[.im (.str t.n),.im w],[.im (.str t.n),.im w],rfl,?_,λ_=>⟨_,rfl,rfl⟩,λ_=>rfl⟩).trans (by unfold plN;rw[aJ];rfl)
  ·unfold iL;rw[rE (g:=tE) (m:="names") (e:=cV 0) (a:=qe) (ρ:=ρ) (hh:=wj) (xs:=wA T M dk W V R c) (ys:=[]) (ρ1:=ρ) (ρ2:=ρ) rfl rfl rfl rfl (M4 T hl)]
  ·have e0:qZ [w,.str t.n]=some ((vH (nK T) (T.map thD) (kS t.n)).getD .non):=by kernel_rfl
   rw[BN g.ndT thD ht]at e0;refine rb (rE (hh:=sW) (xs:=[.str t.n,.tup (t.w.map D.str),.str t.k.s,oS t.s]) (ys:=[]) (ρ1:=[.im (.str t.n),.im w]) (ρ2:=[.im (.str t.n),.im w]) ?_ rfl rfl rfl (Gj t));exact rE (hh:=qZ) (xs:=wA T M dk W V R c) (ys:=[.str t.n]) (ρ1:=[.im (.str t.n),.im w]) (ρ2:=[.im (.str t.n),.im w]) rfl rfl rfl rfl e0
 let NL:Sl:=.im (.lst ((plN T).map D.str));have s2:∀F:Sl,p6 2 (cL (pH 1 [0] (iL (qB tE "names" (cV 0) qe)) (gN 0) (cT (qB qY "is_plainly" (qB rM "thing_of" (cV 1) (a1 (cV 0))) qe)) (cV 0))) [.im w,F,.un,.un,.un]=some (.nx [.im w,F,NL,.un,.un]):=λF=>(pO (qu (nms F))).trans rfl;simp only[fms,aH,bX,or_false]at hf;rcases hf with rfl|rfl|rfl|rfl
 ·let ρ:List Sl:=[.im w,.im (.str "one"),NL,.un,.un];refine vc (ρ:=ρ) rfl ?_;unfold sF;refine(pW rfl).trans ((pW rfl).trans ((px (s2 _)).trans (AU ((pR rfl).trans (se ((rQ D.str (λx=>.tup [.str x,.non]) (plN T) (ρ1:=ρ) rfl (by omega) λx _=>⟨[.im (.str x)],[.im (.str x)],rfl,rfl,rfl⟩).trans ?_))))));show _=some (((plN T).map λx=>(D.str x,D.non)).map p2,ρ);rw[aJ];rfl
 ·obtain⟨s',e⟩:=Gv (a:=.im w) (b:=.im (.str "two")) (x:=.un) (plN T) lN (plN T) [] .un (by simp;omega);refine vc (ρ:=[.im w,.im (.str "two"),NL,.un,s']) rfl ?_;unfold sF;refine(pW rfl).trans ((pW rfl).trans ((px (s2 _)).trans ((pW rfl).trans ((px (ρ':=[.im w,.im (.str "two"),NL,.ls [],.un]) rfl).trans ((px ((sG (ds:=(plN T).map D.str) (ρ1:=[.im w,.im (.str "two"),NL,.ls [],.un]) rfl).trans e)).trans ?_)))));rfl
 ·refine vc (ρ:=[.im w,.im (.str "alone"),.un,.un,.un]) rfl ?_;unfold sF;exact AU ((pR rfl).trans rfl)
 ·let ρ:List Sl:=[.im w,.im (.str "way"),.un,.un,.un];refine vc (ρ:=ρ) rfl ?_;unfold sF;refine(pW rfl).trans (AU ((pR rfl).trans (se ((rQ D.str (λx=>.tup [.str x,.non]) (wdN W) (ρ1:=ρ) ?_ (by omega) λx _=>⟨[.im (.str x)],[.im (.str x)],rfl,rfl,rfl⟩).trans ?_))))
  ·show iL _ ρ=_;unfold iL;rw[rE (g:=sP) (m:="way_words") (e:=cV 0) (a:=qe) (ρ:=ρ) (hh:=tX) (xs:=wA T M dk W V R c) (ys:=[]) (ρ1:=ρ) (ρ2:=ρ) rfl rfl rfl rfl (M3 g.w8 λw hw=>(g.wo w hw).hw)]
  ·show _=some (((wdN W).map λx=>(D.str x,D.non)).map p2,ρ);rw[aJ];rfl
end
def cmV(N Dw:List Str)(v:Str×Str):List L4.D:=(obF N Dw v.2).map (p3 v.1)
def cmA(N Dw:List Str)(Q:List (Str×Str)):List L4.D:=Q.flatMap (cmV N Dw)
theorem M5{N Dw:List Str}(hN:N.length<=7)(hD:Dw.length<=3):∀Q:List (Str×Str),(cmA N Dw Q).length<=49 * Q.length
 |[]=>aC _
 |q::Q=>by unfold cmA;rw[cZ,au,aB];have h1:=M5 hN hD Q;have h2:=HM hN hD q.2;unfold cmA at h1;unfold cmV at h1 ⊢;rw[af];omega
section
variable{T:List Th}{M:List Mk}{dk:List Str}{W:List Wy}{V:List Vb}{R:List L4.D}{c:L4.D}
theorem Jj(g:Good T M dk W):∀(L:List Vb) (acc:List L4.D) (s:Sl),(∀v∈L,v.f∈fms)->acc.length+49 * L.length<=900->∃s',forL (gN 2) (qb (Bw 1 (pH 2 [2] (iL (cL (qh rW (aCons (cV 0) (a1 (c1 (pG rH "form") (cV 2))))))) (gT (qD (gN 0) (qD (gN 1) vG)) 2) qg (qd (aCons (c1 (pG pI "name") (cV 2)) (aCons (cV 0) (a1 (cV 1)))))))) (L.map vbO) [.im (wO T M dk W V R c),.ls acc,s]=some (.nx [.im (wO T M dk W V R c),.ls (acc++cmA (plN T) (wdN W) (L.map nf)),s'])
 |[],acc,s,_,_=>⟨s,by show _=some (Out.nx [_,.ls (acc++[]),s]);rw[bA];rfl⟩
 |v::L,acc,s,hf,hl=>by
  rw[aB]at hl;have lN:(plN T).length<=7:=by unfold plN;rw[af];exact g.p7
  have lo:=HM lN (Fe W) v.f;let w:=wO T M dk W V R c;let nw:List L4.D:=cmV (plN T) (wdN W) (nf v);have ln:nw.length<=49:=by show (cn _ _).length<=49;rw[af];exact lo
  obtain⟨s',e⟩:=Jj g L (acc++nw) (.im (vbO v)) (λu hu=>hf u (aO _ hu)) (by rw[au];omega);refine⟨s',?_⟩;rw[aG];unfold forL;let ρ:List Sl:=[.im w,.ls acc,.im (vbO v)];rw[show gN 2 (vbO v) [.im (wO T M dk W V R c),.ls acc,s]=some ρ from rfl];have ec:pH 2 [2] (iL (cL (qh rW (aCons (cV 0) (a1 (c1 (pG rH "form") (cV 2))))))) (gT (qD (gN 0) (qD (gN 1) vG)) 2) qg (qd (aCons (c1 (pG pI "name") (cV 2)) (aCons (cV 0) (a1 (cV 1))))) ρ=some (nw,ρ):=by refine rQ p2 (p3 v.n) (obF (plN T) (wdN W) v.f) (ρ1:=ρ) ?_ (by omega) λq _=>⟨[.im q.1,.im q.2,.im (vbO v)],[.im q.1,.im q.2,.im (vbO v)],rfl,rfl,rfl⟩;unfold iL;rw[qu (pz (g:=rW) (ds:=[w,.str v.f]) (ρ1:=ρ) rfl (HN g (hf v aP)))]
  have e1:qb (Bw 1 (pH 2 [2] (iL (cL (qh rW (aCons (cV 0) (a1 (c1 (pG rH "form") (cV 2))))))) (gT (qD (gN 0) (qD (gN 1) vG)) 2) qg (qd (aCons (c1 (pG pI "name") (cV 2)) (aCons (cV 0) (a1 (cV 1))))))) ρ=some (.nx [.im w,.ls (acc++nw),.im (vbO v)]):=(qF (LA (i:=1) (es0:=acc) (es:=acc) (ρ1:=ρ) rfl ec rfl (by omega))).trans rfl;simp only[e1];rw[e,bq];rfl
theorem M6(h6:∀v∈V,v∈v6):∀v∈V++v9,v.f∈fms:=λv hv=>Vv (by
 rcases aQ.mp hv with hv|hv
 ·exact bg _ (h6 v hv)
 ·exact aZ _ hv)
theorem Gw(g:Good T M dk W)(h6:∀v∈V,v∈v6)(lV:V.length<=6):vA [wO T M dk W V R c]=some (cmA (plN T) (wdN W) ((V++v9).map nf)):=by
 let w:=wO T M dk W V R c;have l15:(V++v9).length<=15:=by rw[au];show V.length+9<=15;omega
 obtain⟨s',e⟩:=Jj g (V:=V) (R:=R) (c:=c) (V++v9) [] .un (M6 h6) (by simp only[de];omega);refine vc (ρ:=[.im w,.un,s']) rfl ?_;unfold zx;refine(px (ρ':=[.im w,.ls [],.un]) rfl).trans ((px ((sG (ds:=(V++v9).map vbO) (ρ1:=[.im w,.ls [],.un]) ?_).trans e)).trans rfl);unfold iL;rw[rE (g:=rZ) (m:="all_verbs") (e:=cV 0) (a:=qe) (ρ:=[.im w,.ls [],.un]) (hh:=sg) (xs:=wA T M dk W V R c) (ys:=[]) (ρ1:=[.im w,.ls [],.un]) (ρ2:=[.im w,.ls [],.un]) rfl rfl rfl rfl (An V lV _ _ _ _ _ _)]
def dB:FS:=(pA (sIf (cT (c2 (dEq false) (cV 8) (cS "alone"))) (qb (vT 6 (qd (aCons (cV 7) (aCons (cC D.non) (a1 (cC D.non))))))) pQ)
 (pA (sIf (cT (c2 (dEq false) (cV 8) (cS "one"))) (qT 6 (qS (cFz 6) (cL (pH 1 [7] (iL (cV 3)) (gN 0) qg (qd (aCons (cV 1) (aCons (cV 0) (a1 (cC D.non))))))))) pQ)
 (pA (sIf (cT (c2 (dEq false) (cV 8) (cS "two"))) (u4 (iL (cV 3)) (gN 9) (qT 6 (qS (cFz 6) (cL (pH 1 [7,9] (iL (cV 3)) (gN 0) qg (qd (aCons (cV 1) (aCons (cV 2) (a1 (cV 0)))))))))) pQ)
 (sIf (cT (c2 (dEq false) (cV 8) (cS "way"))) (qT 6 (qS (cFz 6) (cL (pH 1 [7] (iL (cV 4)) (gN 0) qg (qd (aCons (cV 1) (aCons (cV 0) (a1 (cC D.non))))))))) pQ))))
theorem Jk{a b d e f x:Sl}(v:Str)(N:List Str)(hN:N.length<=7):∀(l:List Str) (acc:List L4.D) (s:Sl),acc.length+7 * l.length<=1000->∃s',forL (gN 9) (qT 6 (qS (cFz 6) (cL (pH 1 [7,9] (iL (cV 3)) (gN 0) qg (qd (aCons (cV 1) (aCons (cV 2) (a1 (cV 0))))))))) (l.map D.str) [a,b,d,.im (.lst (N.map D.str)),e,f,.ls acc,.im (.str v),x,s]=some (.nx [a,b,d,.im (.lst (N.map D.str)),e,f,.ls (acc++(l.flatMap λa=>N.map λb=>(D.str a,D.str b)).map (p3 v)),.im (.str v),x,s'])
 |[],acc,s,_=>⟨s,by show _=some (Out.nx [_,_,_,_,_,_,.ls (acc++[]),_,_,_]);rw[bA];rfl⟩
 |y::l,acc,s,hl=>by
  rw[aB]at hl;let Q:Sl:=.im (.lst (N.map D.str));let Y:Sl:=.im (.str y);let Z:Sl:=.im (.str v);let nw:List L4.D:=(N.map λb=>(D.str y,D.str b)).map (p3 v);have ln:nw.length=N.length:=by show (cn _ _).length=_;rw[af,af]
  obtain⟨s',q⟩:=Jk (a:=a) (b:=b) (d:=d) (e:=e) (f:=f) (x:=x) v N hN l (acc++nw) Y (by rw[au];omega);refine⟨s',?_⟩;rw[aG];unfold forL;let ρ:List Sl:=[a,b,d,Q,e,f,.ls acc,Z,x,Y];rw[show gN 9 (.str y) [a,b,d,Q,e,f,.ls acc,Z,x,s]=some ρ from rfl];let ρ1:List Sl:=[a,b,d,Q,e,f,.im (.lst acc),Z,x,Y];have ec:cL (pH 1 [7,9] (iL (cV 3)) (gN 0) qg (qd (aCons (cV 1) (aCons (cV 2) (a1 (cV 0)))))) ρ1=some (.lst nw,ρ1):=(qu (rQ D.str (λz=>.tup [.str v,.str y,.str z]) N (ρ1:=ρ1) rfl (by omega) λz _=>⟨[.im (.str z),Z,Y],[.im (.str z),Z,Y],rfl,rfl,rfl⟩)).trans (by show _=some (D.lst (cn _ (cn _ N)),ρ1);rw[aJ];rfl);have e1:qT 6 (qS (cFz 6) (cL (pH 1 [7,9] (iL (cV 3)) (gN 0) qg (qd (aCons (cV 1) (aCons (cV 2) (a1 (cV 0)))))))) ρ=some (.nx [a,b,d,Q,e,f,.ls (acc++nw),Z,x,Y]):=(xa (qP (xs:=acc) (ρ1:=ρ1) rfl ec (by omega))).trans rfl;simp only[e1];rw[q,cZ,aS,bq]
theorem M7{a b d x9:Sl}(hN:N.length<=7)(hD:Dw.length<=3){e:Sl}(v f:Str)(hf:f∈fms)(acc:List L4.D)(hl:acc.length<=900):∃s',dB [a,b,d,.im (.lst (N.map D.str)),.im (.lst (Dw.map D.str)),e,.ls acc,.im (.str v),.im (.str f),x9]=some (.nx [a,b,d,.im (.lst (N.map D.str)),.im (.lst (Dw.map D.str)),e,.ls (acc++cmV N Dw (v,f)),.im (.str v),.im (.str f),s']):=by
 let P:Sl:=.im (.lst (N.map D.str));let Q:Sl:=.im (.lst (Dw.map D.str));let Z:Sl:=.im (.str v);have one:∀(i:Nat) (L:List Str) (F:Sl),L.length<=7->(∀A,cV i [a,b,d,P,Q,e,A,Z,F,x9]=some (.lst (L.map D.str),[a,b,d,P,Q,e,A,Z,F,x9]))->qT 6 (qS (cFz 6) (cL (pH 1 [7] (iL (cV i)) (gN 0) qg (qd (aCons (cV 1) (aCons (cV 0) (a1 (cC D.non)))))))) [a,b,d,P,Q,e,.ls acc,Z,F,x9]=some (.nx [a,b,d,P,Q,e,.ls (acc++(L.map λx=>(D.str x,D.non)).map (p3 v)),Z,F,x9]):=λi L F hL hi=>by
  let ρ1:List Sl:=[a,b,d,P,Q,e,.im (.lst acc),Z,F,x9];have hs:iL (cV i) ρ1=some (L.map D.str,ρ1):=by unfold iL;rw[hi]
  have ec:cL (pH 1 [7] (iL (cV i)) (gN 0) qg (qd (aCons (cV 1) (aCons (cV 0) (a1 (cC D.non)))))) ρ1=some (.lst ((L.map λx=>(D.str x,D.non)).map (p3 v)),ρ1):=(qu (rQ D.str (λz=>.tup [.str v,.str z,.non]) L hs (by omega) λz _=>⟨[.im (.str z),Z],[.im (.str z),Z],rfl,rfl,rfl⟩)).trans (by rw[aJ];rfl);exact(xa (qP (xs:=acc) (ρ1:=ρ1) rfl ec (by rw[af,af];omega))).trans rfl
 simp only[fms,aH,bX,or_false]at hf;unfold dB;rcases hf with rfl|rfl|rfl|rfl
 ·exact⟨x9,(pW rfl).trans ((px ((pR rfl).trans (one 3 N _ hN λ_=>rfl))).trans ((pW rfl).trans ((qz rfl).trans rfl)))⟩
 ·obtain⟨s',q⟩:=Jk (a:=a) (b:=b) (d:=d) (e:=Q) (f:=e) (x:=.im (.str "two")) v N hN N acc x9 (by omega);exact⟨s',(pW rfl).trans ((pW rfl).trans ((px ((pR rfl).trans ((sG rfl).trans q))).trans ((qz rfl).trans rfl)))⟩
 ·refine⟨x9,(px (ρ':=[a,b,d,P,Q,e,.ls (acc++[p3 v (.non,.non)]),Z,.im (.str "alone"),x9]) ((pR rfl).trans ((qF (yb (es0:=acc) (es:=acc) (ρ1:=[a,b,d,P,Q,e,.ls acc,Z,.im (.str "alone"),x9]) (d:=p3 v (.non,.non)) rfl rfl rfl (by omega))).trans rfl))).trans ((pW rfl).trans ((pW rfl).trans ((qz rfl).trans rfl)))⟩
 ·exact⟨x9,(pW rfl).trans ((pW rfl).trans ((pW rfl).trans ((pR rfl).trans (one 4 Dw _ (by omega) λ_=>rfl))))⟩
theorem Gx{a b d e:Sl}{N Dw:List Str}(hN:N.length<=7)(hD:Dw.length<=3):∀(L:List (Str×Str)) (acc:List L4.D) (s7 s8 s9:Sl),(∀q∈L,q.2∈fms)->acc.length+49 * L.length<=900->∃t7 t8 t9,forL (gT (qD (gN 7) (qD (gN 8) vG)) 2) dB (L.map prS) [a,b,d,.im (.lst (N.map D.str)),.im (.lst (Dw.map D.str)),e,.ls acc,s7,s8,s9]=some (.nx [a,b,d,.im (.lst (N.map D.str)),.im (.lst (Dw.map D.str)),e,.ls (acc++cmA N Dw L),t7,t8,t9])
 |[],acc,s7,s8,s9,_,_=>⟨s7,s8,s9,by show _=some (Out.nx [_,_,_,_,_,_,.ls (acc++[]),_,_,_]);rw[bA];rfl⟩
 |q::L,acc,s7,s8,s9,hf,hl=>by
  rw[aB]at hl;obtain⟨s',x1⟩:=M7 (a:=a) (b:=b) (d:=d) (x9:=s9) (e:=e) hN hD q.1 q.2 (hf q aP) acc (by omega);have ln:(cmV N Dw q).length<=49:=by unfold cmV;rw[af];exact HM hN hD q.2
  obtain⟨t7,t8,t9,x2⟩:=Gx (a:=a) (b:=b) (d:=d) (e:=e) hN hD L (acc++cmV N Dw q) (.im (.str q.1)) (.im (.str q.2)) s' (λu hu=>hf u (aO _ hu)) (by rw[au];omega);refine⟨t7,t8,t9,?_⟩;rw[aG];unfold forL;rw[show gT (qD (gN 7) (qD (gN 8) vG)) 2 (prS q) [a,b,d,.im (.lst (N.map D.str)),.im (.lst (Dw.map D.str)),e,.ls acc,s7,s8,s9]=some [a,b,d,.im (.lst (N.map D.str)),.im (.lst (Dw.map D.str)),e,.ls acc,.im (.str q.1),.im (.str q.2),s9] from rfl];simp only[x1];rw[x2,bq];rfl
theorem V2:∀k:Kd,(!decide (k.s∈(["room", "you"]:List Str)))=k.pl:=AR rfl rfl rfl rfl rfl rfl
theorem TR(g:Good T M dk W)(h6:∀v∈V,v∈v6)(lV:V.length<=6):xF [TD T,WD W,VD V]=some (cmA (plN T) (wdN W) ((V++v9).map nf)):=by
 have hl:=g.len;have h8:=g.w8;have lN:(plN T).length<=7:=by unfold plN;rw[af];exact g.p7
 let A:Sl:=.im (TD T);let B:Sl:=.im (WD W);let C:Sl:=.im (VD V);let U:Sl:=.un;let P:Sl:=.im (.lst ((plN T).map D.str));let Q:Sl:=.im (.lst ((wdN W).map D.str));let F:Sl:=.im (.lst (((V++v9).map nf).map prS));have l15:((V++v9).map nf).length<=15:=by rw[af,au];show V.length+9<=15;omega
 obtain⟨t7,t8,t9,e⟩:=Gx (a:=A) (b:=B) (d:=C) (e:=F) lN (Fe W) ((V++v9).map nf) [] U U U (λq hq=>by obtain⟨v,hv,rfl⟩:=az.mp hq;exact M6 h6 v hv) (by simp only[de];omega);refine vc (ρ:=[A,B,C,P,Q,F,.un,t7,t8,t9]) rfl ?_;unfold zy;let ρ0:List Sl:=[A,B,C,U,U,U,U,U,U,U];refine(px (ρ':=[A,B,C,P,U,U,U,U,U,U]) ((pO (qu (uf thD (λt=>.str t.n) (λt=>t.k.pl) T (ρ1:=ρ0) rfl (by omega) λt _=>⟨[.im (thD t)],[.im (thD t)],rfl,?_,λ_=>⟨_,rfl,rfl⟩,λ_=>rfl⟩))).trans ?_)).trans ?_
 ·exact rb (pT (x:=.str t.k.s) (y:=.lst ((["room", "you"]:List Str).map D.str)) rfl rfl ((ve true _ _).trans (by rw[<-V2 t.k];rfl)))
 ·show some (Out.nx [A,B,C,.im (.lst ((T.filter λt=>t.k.pl).map λt=>.str t.n)),U,U,U,U,U,U])=_;rw[show ((T.filter λt=>t.k.pl).map λt=>D.str t.n)=(plN T).map D.str by unfold plN;rw[aJ];rfl]
 let ρ1:List Sl:=[A,B,C,P,U,U,U,U,U,U];refine(px (ρ':=[A,B,C,P,Q,U,U,U,U,U]) ((pO (qu (uf D.str D.str (λx=>decide (x∈W.map Wy.w)) w3 (ρ1:=ρ1) rfl (by decide) λx _=>⟨[.im (.str x),B],[.im (.str x),B],rfl,?_,λ_=>⟨_,rfl,rfl⟩,λ_=>rfl⟩))).trans rfl)).trans ?_
 ·refine rb (pT (x:=.str x) (y:=.lst ((W.map Wy.w).map D.str)) rfl ((qu (rQ wyO (λw=>.str w.w) W (ρ1:=[.im (.str x),B]) rfl (by omega) λw _=>⟨[.im (wyO w)],[.im (wyO w)],rfl,rfl,rfl⟩)).trans (by rw[aJ];rfl)) (ve false x _))
 let ρ2:List Sl:=[A,B,C,P,Q,U,U,U,U,U];refine(px (ρ':=[A,B,C,P,Q,.im (.lst ((V.map nf).map prS)),U,U,U,U]) ((pO ((qu (rQ vbO (λv=>prS (nf v)) V (ρ1:=ρ2) rfl (by omega) λv _=>⟨[.im (vbO v)],[.im (vbO v)],rfl,rfl,rfl⟩)).trans (by rw[aJ];rfl):_=some (.lst ((V.map nf).map prS),ρ2))).trans rfl)).trans ?_;let F1:List L4.D:=(V.map nf).map prS;let F2:List L4.D:=F1++((v9.take 6).map nf).map prS;have l1:F1.length<=6:=by show ((V.map nf).map prS).length<=6;rw[af,af];exact lV
 have l2:F2.length<=12:=by show (F1++_).length<=12;rw[au];show F1.length+6<=12;omega
 refine(px (ρ':=[A,B,C,P,Q,.im (.lst F2),U,U,U,U]) ((pO (qu (qP (xs:=F1) (ys:=((v9.take 6).map nf).map prS) (ρ1:=[A,B,C,P,Q,.im (.lst F1),U,U,U,U]) (ρ2:=[A,B,C,P,Q,.im (.lst F1),U,U,U,U]) rfl (by kernel_rfl) (by show F1.length+6<=1000;omega)))).trans rfl)).trans ?_;refine(px (ρ':=[A,B,C,P,Q,F,U,U,U,U]) ((pO (qu (qP (xs:=F2) (ys:=((v9.drop 6).map nf).map prS) (ρ1:=[A,B,C,P,Q,.im (.lst F2),U,U,U,U]) (ρ2:=[A,B,C,P,Q,.im (.lst F2),U,U,U,U]) rfl (by kernel_rfl) (by show F2.length+3<=1000;omega)))).trans ?_)).trans ?_
 ·show some (Out.nx [A,B,C,P,Q,.im (.lst (F1++((v9.take 6).map nf).map prS++((v9.drop 6).map nf).map prS)),U,U,U,U])=_;rw[show F1++((v9.take 6).map nf).map prS++((v9.drop 6).map nf).map prS=((V++v9).map nf).map prS by rw[bq,aS,aS];rfl]
 exact(px (ρ':=[A,B,C,P,Q,F,.ls [],U,U,U]) rfl).trans ((px ((sG (ds:=((V++v9).map nf).map prS) (ρ1:=[A,B,C,P,Q,F,.ls [],U,U,U]) rfl).trans e)).trans rfl)
end
def isC(d:L4.D):Prop:=∃v a b,d=.tup [.str v,a,b]/\(a=.non\/∃x,a=.str x)/\(b=.non\/∃x,b=.str x)
theorem V3{q:L4.D×L4.D}(h:q∈obF N Dw f):(q.1=.non\/∃x,q.1=.str x)/\(q.2=.non\/∃x,q.2=.str x):=by
 unfold obF at h;split at h
 ·rw[aX.mp h];exact⟨.inl rfl,.inl rfl⟩
 ·split at h
  ·obtain⟨x,_,rfl⟩:=az.mp h;exact⟨.inr ⟨x,rfl⟩,.inl rfl⟩
  ·split at h
   ·obtain⟨x,_,rfl⟩:=az.mp h;exact⟨.inr ⟨x,rfl⟩,.inl rfl⟩
   ·obtain⟨x,_,h⟩:=c9.mp h;obtain⟨y,_,rfl⟩:=az.mp h;exact⟨.inr ⟨x,rfl⟩,.inr ⟨y,rfl⟩⟩
theorem VC{Q:List (Str×Str)}:∀d∈cmA N Dw Q,isC d:=λd hd=>by obtain⟨v,_,hd⟩:=c9.mp hd;obtain⟨q,hq,rfl⟩:=az.mp hd;exact⟨v.1,q.1,q.2,rfl,V3 hq⟩
theorem M8:∀l:List L4.D,(∀d∈l,isC d)->∃m,um l=some m/\qX m<=1
 |[],_=>⟨[],rfl,by decide⟩
 |d::l,h=>by
  obtain⟨m,h1,h2⟩:=M8 l λx hx=>h x (aO _ hx);obtain⟨v,a,b,rfl,ha,hb⟩:=h d aP;have e:∀a:L4.D,(a=.non\/∃x,a=.str x)->∃z,toD a=some z/\dpt z=0:=λa h=>by
   rcases h with rfl|⟨x,rfl⟩
   ·exact⟨.non,rfl,rfl⟩
   ·exact⟨.str x,rfl,rfl⟩
  obtain⟨y,y1,y2⟩:=e a ha;obtain⟨z,z1,z2⟩:=e b hb;have et:toD (.tup [.str v,a,b])=some (.tup [.str v,y,z]):=by
   unfold toD;have:um [.str v,a,b]=some [.str v,y,z]:=by unfold um;rw[show toD (.str v)=some (.str v) from rfl];unfold um;rw[y1];unfold um;rw[z1];rfl
   rw[this]
  refine⟨.tup [.str v,y,z]::m,by unfold um;rw[et,h1],?_⟩;unfold qX;refine ng.mpr ⟨?_,h2⟩;rw[dpt];unfold qX qX qX qX;rw[y2,z2,show dpt (L3.Dq.str v)=0 from rfl];decide
theorem TU(ns:List Int)(hl:ns.length<=63):PJ [.fzl (ns.map D.int)]=some (.bl true):=by
 obtain⟨x0,ex⟩:∃x0,rN [.fzl (ns.map D.int),.int 0]=some (.int x0):=by
  cases ns with
  |nil=>exact⟨0,rfl⟩
  |cons x l=>
   refine⟨x,?_⟩;let S:L4.D:=.fzl ((x::l).map D.int);refine qk (ρ:=[.im S,.im (.int 0)]) rfl ?_;have et:cT (c2 Bx (cV 1) (c1 qR (cV 0))) [.im S,.im (.int 0)]=some (true,[.im S,.im (.int 0)]):=by refine rb (pT (x:=.int 0) (y:=.int (((x::l).map D.int).length:Nat)) rfl rfl ?_);show some (D.bl (decide ((0:Int)<(((x::l).map D.int).length:Nat))))=_;rw[aR (by rw[af,aB];omega)]
   exact p9 ((pR et).trans (qa (pT (x:=S) (y:=.int 0) rfl rfl (zG (j:=0) rfl))))
 obtain⟨T,M,dk,W,t,n,R,es',g,ht,hn,lR,ok,xm⟩:=Pe (es:=[.int x0]) (.inl ⟨x0,rfl⟩);have h6:∀v∈vL t n,v∈v6:=λv hv=>E8 hv;obtain⟨c,xw⟩:=M0 g ht hn ok lR;let V:=vL t n;have lV:V.length<=6:=CW t n;let w:=wO T M dk W V R c;let cm:List L4.D:=cmA (plN T) (wdN W) ((V++v9).map nf);have xc:vA [w]=some cm:=Gw g h6 lV;have xd:xF [TD T,WD W,VD V]=some cm:=TR g h6 lV;have lN:(plN T).length<=7:=by unfold plN;rw[af];exact g.p7
 have lc:cm.length<=900:=by have h1:=M5 lN (Fe W) ((V++v9).map nf);rw[af,au]at h1;have h2:v9.length=9:=rfl;show (cmA _ _ _).length<=900;omega
 obtain⟨m,m1,m2⟩:=M8 cm VC;have rf:∀neg:Bool,dEq neg (.lst cm) (.lst cm)=some (.bl (!neg)):=λneg=>ER m1 (by omega);let S:Sl:=.im (.fzl (ns.map D.int));let DK:L4.D:=.lst (dk.map D.str);let Q:L4.D:=.lst [TD T,MD M,DK,WD W,VD V,.lst R];let A:=Sl.im (TD T);let B:=Sl.im (MD M);let E:=Sl.im DK;let F:=Sl.im (WD W);let G:=Sl.im (VD V);let H:=Sl.im (D.lst R);let X:=Sl.im w;let Y:=Sl.im (D.lst cm);let U:Sl:=.un;refine qk (ρ:=[S,.im Q,A,B,E,F,G,H,X,Y,.ls []]) rfl ?_;unfold IV;refine(px (ρ':=[S,.im Q,U,U,U,U,U,U,U,U,U]) ((pO (i:=1) (d:=Q) (ρ':=[S,U,U,U,U,U,U,U,U,U,U]) ?_).trans rfl)).trans ?_
 ·show cMutT tH (a1 (cC (.int 3))) (pN (a1 (pC rN (aCons (cV 0) (a1 (cC (.int 0))))))) [S,U,U,U,U,U,U,U,U,U,U]=_;unfold cMutT;rw[show a1 (cC (.int 3)) [S,U,U,U,U,U,U,U,U,U,U]=some ([.int 3],[S,U,U,U,U,U,U,U,U,U,U]) from rfl];have el:pN (a1 (pC rN (aCons (cV 0) (a1 (cC (.int 0)))))) [S,U,U,U,U,U,U,U,U,U,U]=some ([.int x0],[S,U,U,U,U,U,U,U,U,U,U]):=Ly (pB (pz (ds:=[.fzl (ns.map D.int),.int 0]) rfl ex) rfl) (iB rfl);show (match pN (a1 (pC rN (aCons (cV 0) (a1 (cC (.int 0)))))) [S,U,U,U,U,U,U,U,U,U,U]with
   |some (ns,ρ2)=>match tH ns [.int 3]with|some (d,_)=>some (d,ρ2)|none=>none
   |none=>none)=_
  rw[el];show (match tH [.int x0] [.int 3]with|some (d,_)=>some (d,[S,U,U,U,U,U,U,U,U,U,U])|none=>none)=_;rw[xm]
 refine(px (ρ':=[S,.im Q,A,B,E,F,G,H,U,U,U]) rfl).trans ?_;refine(px (ρ':=[S,.im Q,A,B,E,F,G,H,X,U,U]) ((pO (i:=8) (rF (c:=14) (g:=λds=>tW (ds++[])) (ds:=[TD T,MD M,DK,WD W,VD V,.lst R]) (ρ1:=[S,.im Q,A,B,E,F,G,H,U,U,U]) rfl xw)).trans rfl)).trans ?_;refine(px (ρ':=[S,.im Q,A,B,E,F,G,H,X,Y,U]) ((pO (qu (pz (ds:=[TD T,WD W,VD V]) (ρ1:=[S,.im Q,A,B,E,F,G,H,X,U,U]) rfl xd))).trans rfl)).trans ?_;refine(px (ρ':=[S,.im Q,A,B,E,F,G,H,X,Y,.ls cm]) ((xa (pz (ds:=[w]) (ρ1:=[S,.im Q,A,B,E,F,G,H,X,Y,U]) rfl xc)).trans rfl)).trans ?_;let ρ:List Sl:=[S,.im Q,A,B,E,F,G,H,X,Y,.ls cm];let σ:List Sl:=ρ.map Sl.bor;refine(px (ρ':=ρ) ((qz (ρ':=ρ) (EO (ρ1:=σ) (vV (ρ1:=σ) rfl (vV (ρ1:=σ) (rb (pT (x:=.lst cm) (y:=.lst cm) (ρ1:=σ) (ρ2:=σ) rfl rfl (rf true))) (rb (pT (x:=.lst []) (y:=.lst []) (ρ1:=σ) (ρ2:=σ) (qu ?_) rfl rfl)))))).trans rfl)).trans ?_
 ·refine(uf id (λ_=>.int 1) (λ_=>false) cm (ρ1:=σ) (by rw[eB];rfl) (by omega) λd hd=>⟨[.im d],[.im d],rfl,?_,λz=>(by cases z),λ_=>rfl⟩).trans (by rw[j4.mpr λ_ _=>aT];rfl);obtain⟨v,a,b,rfl,_⟩:=VC d hd;rfl
 refine(px (ρ':=[S,.im Q,A,B,E,F,G,H,X,Y,.ls []]) rfl).trans (qa ?_);exact pT (x:=.lst cm) (y:=.lst cm) (qu (pz (ds:=[w]) (ρ1:=[S,.im Q,A,B,E,F,G,H,X,Y,.ls []]) rfl xc)) rfl (rf false)
end K31x
namespace K31x
open PySem L2 L3 L4
open PySem.W (nsIn)
structure Fx(K:ak)(C0 C1 C2 C3 C4 C5 C6 C7 C8 C9 C10 C11 C12 C13 C14 C15:Addr):Prop where
 a0:nsIn K aK "Thing" = some (some (.ref C0))
 a1:nsIn K aK "Mark" = some (some (.ref C1))
 a2:nsIn K aK "Verb" = some (some (.ref C2))
 a3:nsIn K aK "At" = some (some (.ref C3))
 a4:nsIn K aK "Has" = some (some (.ref C4))
 a5:nsIn K aK "Seen" = some (some (.ref C5))
 a6:nsIn K aK "Marked" = some (some (.ref C6))
 a7:nsIn K aK "Kind" = some (some (.ref C7))
 a8:nsIn K aK "Word" = some (some (.ref C8))
 a9:nsIn K aK "Not" = some (some (.ref C9))
 a10:nsIn K aK "Both" = some (some (.ref C10))
 a11:nsIn K aK "Move" = some (some (.ref C11))
 a12:nsIn K aK "Put" = some (some (.ref C12))
 a13:nsIn K aK "Rule" = some (some (.ref C13))
 a14:nsIn K aK "World" = some (some (.ref C14))
 a15:nsIn K aK "Lit" = some (some (.ref C15))
 k0:CF K C0 ["kind", "name", "start", "words"]
 k1:CF K C1 ["most", "name", "start"]
 k2:CF K C2 ["form", "joining", "name", "others"]
 k3:CF K C3 ["place", "term"]
 k4:CF K C4 ["term"]
 k5:CF K C5 ["term"]
 k6:CF K C6 ["term", "value"]
 k7:CF K C7 ["kind", "term"]
 k8:CF K C8 ["word"]
 k9:CF K C9 ["inner"]
 k10:CF K C10 ["one", "other"]
 k11:CF K C11 ["place", "term"]
 k12:CF K C12 ["term", "value"]
 k13:CF K C13 ["deeds", "refuses", "tests", "text", "verb"]
 k14:CF K C14 ["copied_rules", "kept_things", "kept_verbs", "kept_ways", "mosts_by_name", "shared_rules", "shared_verbs", "things_by_name", "verbs_by_word", "your_name", "kept_dark", "kept_marks", "kept_rules", "rules_by_verb"]
 k15:CF K C15 []
 i_At:rA K [C0,C1,C2,C3,C4,C5,C6,C7,C8,C9,C10,C11,C12,C13,C14,C15] C3 3=true
 i_Both:rA K [C0,C1,C2,C3,C4,C5,C6,C7,C8,C9,C10,C11,C12,C13,C14,C15] C10 10=true
 i_Has:rA K [C0,C1,C2,C3,C4,C5,C6,C7,C8,C9,C10,C11,C12,C13,C14,C15] C4 4=true
 i_Kind:rA K [C0,C1,C2,C3,C4,C5,C6,C7,C8,C9,C10,C11,C12,C13,C14,C15] C7 7=true
 i_Lit:rA K [C0,C1,C2,C3,C4,C5,C6,C7,C8,C9,C10,C11,C12,C13,C14,C15] C15 15=true
 i_Mark:rA K [C0,C1,C2,C3,C4,C5,C6,C7,C8,C9,C10,C11,C12,C13,C14,C15] C1 1=true
 i_Marked:rA K [C0,C1,C2,C3,C4,C5,C6,C7,C8,C9,C10,C11,C12,C13,C14,C15] C6 6=true
 i_Move:rA K [C0,C1,C2,C3,C4,C5,C6,C7,C8,C9,C10,C11,C12,C13,C14,C15] C11 11=true
 i_Not:rA K [C0,C1,C2,C3,C4,C5,C6,C7,C8,C9,C10,C11,C12,C13,C14,C15] C9 9=true
 i_Put:rA K [C0,C1,C2,C3,C4,C5,C6,C7,C8,C9,C10,C11,C12,C13,C14,C15] C12 12=true
 i_Rule:rA K [C0,C1,C2,C3,C4,C5,C6,C7,C8,C9,C10,C11,C12,C13,C14,C15] C13 13=true
 i_Seen:rA K [C0,C1,C2,C3,C4,C5,C6,C7,C8,C9,C10,C11,C12,C13,C14,C15] C5 5=true
 i_Thing:rA K [C0,C1,C2,C3,C4,C5,C6,C7,C8,C9,C10,C11,C12,C13,C14,C15] C0 0=true
 i_Verb:rA K [C0,C1,C2,C3,C4,C5,C6,C7,C8,C9,C10,C11,C12,C13,C14,C15] C2 2=true
 i_Word:rA K [C0,C1,C2,C3,C4,C5,C6,C7,C8,C9,C10,C11,C12,C13,C14,C15] C8 8=true
 n_Lit:bT K (.ref C15) "__init__" = some (some (.builtin "object.__init__"))
 nd:decide ([C0,C1,C2,C3,C4,C5,C6,C7,C8,C9,C10,C11,C12,C13,C14,C15]:List Addr).Nodup=true
 e:((["all", "any", "bool", "int", "isinstance", "len", "list", "range", "set", "sorted", "str", "tuple"]:List Str).all λx=>match nsIn K aK x with|some none=>true|_=>false)=true
 g0:GS K "FORMS" ["alone", "one", "two", "way"]
 g1:GS K "KINDS" ["room", "plain", "fixed", "box", "lamp", "you"]
 g2:GS K "KINDS_APART" ["room", "you"]
 g3:GS K "KINDS_THAT_HOLD" ["room", "box", "you"]
 g4:GS K "KINDS_WITH_MARK" ["box", "lamp"]
 g5:GC K "MOST_BESIDE" 7
 g6:GC K "MOST_BY_COMMAND" 3
 g7:GC K "MOST_DEEDS" 4
 g8:GC K "MOST_DEEP" 4
 g9:GC K "MOST_IN_NAME" 8
 g10:GC K "MOST_IN_WORD" 12
 g11:GC K "MOST_MARKS" 4
 g12:GC K "MOST_OF_MARK" 3
 g13:GC K "MOST_ROOMS" 5
 g14:GC K "MOST_RULES" 20
 g15:GC K "MOST_SIGNS" 60
 g16:GC K "MOST_TESTS" 5
 g17:GC K "MOST_VERBS" 6
 g18:GC K "MOST_WAYS" 10
 g19:GC K "MOST_WORDS" 4
 g20:GS K "NO_NAMES" ["it", "other", "here", "the", "a", "undo", "restart"]
 g21:GS K "NO_WORDS" ["the", "a"]
 g22:GS K "NO_WORDS_OF_ROWS" ["the", "a", "undo", "restart"]
 q23:GD K "is_small_letters" (top 6)
 q24:GD K "is_name" (top 7)
 q25:GD K "is_word" (top 8)
 q26:GD K "is_one_of" (top 10)
 q27:GD K "is_whole" (top 11)
 q28:GD K "is_list_up_to" (top 12)
 q29:GD K "own_list" (top 66)
 q30:GJ K C0 "Thing.__init__" (inClass (top 56) 0) [V.non]
 q31:GM K C1 "__init__" "Mark.__init__" (inClass (top 57) 0)
 q32:GJ K C2 "Verb.__init__" (inClass (top 58) 0) [V.non,(V.str "one"),V.non]
 q33:GM K C3 "__init__" "At.__init__" (inClass (top 28) 0)
 q34:GM K C4 "__init__" "Has.__init__" (inClass (top 29) 0)
 q35:GM K C5 "__init__" "Seen.__init__" (inClass (top 30) 0)
 q36:GM K C6 "__init__" "Marked.__init__" (inClass (top 31) 0)
 q37:GM K C7 "__init__" "Kind.__init__" (inClass (top 32) 0)
 q38:GM K C8 "__init__" "Word.__init__" (inClass (top 33) 0)
 q39:GM K C9 "__init__" "Not.__init__" (inClass (top 35) 0)
 q40:GM K C10 "__init__" "Both.__init__" (inClass (top 36) 0)
 q41:GM K C11 "__init__" "Move.__init__" (inClass (top 48) 0)
 q42:GM K C12 "__init__" "Put.__init__" (inClass (top 49) 0)
 q43:GJ K C13 "Rule.__init__" (inClass (top 65) 0) [(V.bl false)]
 q44:GM K C0 "can_hold" "Thing.can_hold" (inClass (top 56) 1)
 q45:GM K C0 "has_mark" "Thing.has_mark" (inClass (top 56) 2)
 q46:GM K C0 "is_plainly" "Thing.is_plainly" (inClass (top 56) 3)
 q47:GD K "refuse_unless" (top 95)
 q48:GD K "count_of" (top 98)
 q49:GD K "plain_ones" (top 99)
 q50:GD K "is_mark" (top 101)
 q51:GD K "check_things" (top 97)
 q52:GD K "check_marks" (top 100)
 q53:GD K "are_unlike" (top 103)
 q54:GD K "check_names" (top 102)
 q55:GD K "mark_names" (top 104)
 q56:GD K "is_start" (top 106)
 q57:GD K "comes_to_room" (top 107)
 q58:GD K "check_starts" (top 105)
 q59:GD K "are_words" (top 109)
 q60:GD K "has_all" (top 111)
 q61:GD K "is_told_apart" (top 110)
 q62:GD K "check_words_of_things" (top 108)
 q63:GD K "check_dark" (top 112)
 q64:GD K "is_way" (top 114)
 q65:GD K "check_ways" (top 113)
 q66:GD K "is_verb" (top 116)
 q67:GD K "check_verbs" (top 115)
 q68:GD K "are_apart" (top 118)
 q69:GD K "check_vocabulary" (top 117)
 q70:GD K "check_parts" (top 96)
 q71:GD K "does" (top 122)
 q72:GD K "refuses" (top 123)
 q73:GD K "hand_rules" (top 124)
 q74:GD K "put_rules" (top 125)
 q75:GD K "lid_rules" (top 126)
 q76:GD K "flame_rules" (top 127)
 q77:GD K "way_tests" (top 129)
 q78:GD K "go_rules" (top 128)
 q79:GD K "wait_rules" (top 130)
 q80:GD K "common_rules" (top 121)
 q81:GD K "common_verbs" (top 120)
 q82:GD K "by_name" (top 134)
 q83:GD K "mosts_by_name" (top 135)
 q84:GD K "verbs_by_word" (top 136)
 q85:GD K "by_verb" (top 137)
 q86:GM K C14 "of_kind" "World.of_kind" (inClass (top 133) 3)
 q87:GM K C14 "all_verbs" "World.all_verbs" (inClass (top 133) 13)
 q88:GD K "is_same_text" (top 9)
 q89:GD K "copy_of" (top 67)
 q90:GM K C14 "thing_of" "World.thing_of" (inClass (top 133) 2)
 q91:GM K C14 "most_of" "World.most_of" (inClass (top 133) 6)
 q92:GM K C14 "verb_of" "World.verb_of" (inClass (top 133) 14)
 q93:GM K C14 "you" "World.you" (inClass (top 133) 4)
 q94:GD K "is_by_command" (top 78)
 q95:GD K "is_here" (top 79)
 q96:GD K "named" (top 80)
 q97:GD K "is_of_kind" (top 81)
 q98:GD K "is_term" (top 82)
 q99:GD K "is_place" (top 83)
 q100:GD K "is_moved" (top 84)
 q101:GD K "is_mark_value" (top 85)
 q102:GD K "is_move" (top 77)
 q103:GD K "is_said" (top 70)
 q104:GD K "is_verb_name" (top 69)
 q105:GD K "does_or_refuses" (top 71)
 q106:GD K "is_plain_test" (top 75)
 q107:GD K "is_test" (top 74)
 q108:GD K "is_deed" (top 76)
 q109:GD K "are_tests" (top 72)
 q110:GD K "are_deeds" (top 73)
 q111:GD K "is_rule" (top 68)
 q112:GM K C14 "__init__" "World.__init__" (inClass (top 133) 0)
 q113:GM K C14 "names" "World.names" (inClass (top 133) 1)
 q114:GM K C14 "way_words" "World.way_words" (inClass (top 133) 12)
 q115:GD K "objects_of" (top 45)
 q116:GD K "commands" (top 44)
 q117:GD K "_law_cell_at" (top 139)
 q118:GD K "_law_digit" (top 140)
 q119:GD K "_law_named" (top 142)
 q120:GD K "_law_things" (top 141)
 q121:GD K "_law_marks" (top 143)
 q122:GD K "_law_ways" (top 144)
 q123:GD K "_law_verbs" (top 145)
 q124:GD K "_law_term" (top 146)
 q125:GD K "_law_mark_term" (top 148)
 q126:GD K "_law_marked" (top 149)
 q127:GD K "_law_test" (top 147)
 q128:GD K "_law_deed" (top 150)
 q129:GD K "_law_rules" (top 151)
 q130:GD K "_law_made" (top 152)
 q131:GD K "_law_due" (top 153)
 q132:GD K "law" (top 154)
class Yx(B:Bz):Prop where
 y:Yw B.P B.w B.mg B.base B.G
 f:Fx B.G.K (B.G.ca 0) (B.G.ca 1) (B.G.ca 2) (B.G.ca 3) (B.G.ca 4) (B.G.ca 5) (B.G.ca 6) (B.G.ca 7) (B.G.ca 8) (B.G.ca 9) (B.G.ca 10) (B.G.ca 11) (B.G.ca 12) (B.G.ca 13) (B.G.ca 14) (B.G.ca 15)
section
variable{B:Bz}[Y:Yx B]
instance:Yb B:=⟨Y.y⟩
instance:Nb B "all" := ⟨Y.y.n Y.f.e 0 rfl⟩
instance:Nb B "any" := ⟨Y.y.n Y.f.e 1 rfl⟩
instance:Nb B "bool" := ⟨Y.y.n Y.f.e 2 rfl⟩
instance:Nb B "int" := ⟨Y.y.n Y.f.e 3 rfl⟩
instance:Nb B "isinstance" := ⟨Y.y.n Y.f.e 4 rfl⟩
instance:Nb B "len" := ⟨Y.y.n Y.f.e 5 rfl⟩
instance:Nb B "list" := ⟨Y.y.n Y.f.e 6 rfl⟩
instance:Nb B "range" := ⟨Y.y.n Y.f.e 7 rfl⟩
instance:Nb B "set" := ⟨Y.y.n Y.f.e 8 rfl⟩
instance:Nb B "sorted" := ⟨Y.y.n Y.f.e 9 rfl⟩
instance:Nb B "str" := ⟨Y.y.n Y.f.e 10 rfl⟩
instance:Nb B "tuple" := ⟨Y.y.n Y.f.e 11 rfl⟩
instance:Co B "FORMS" IT:=⟨Y.y.cs Y.f.g0⟩
instance:Co B "KINDS" xi:=⟨Y.y.cs Y.f.g1⟩
instance:Co B "KINDS_APART" y7:=⟨Y.y.cs Y.f.g2⟩
instance:Co B "KINDS_THAT_HOLD" vM:=⟨Y.y.cs Y.f.g3⟩
instance:Co B "KINDS_WITH_MARK" vN:=⟨Y.y.cs Y.f.g4⟩
instance:Co B "MOST_BESIDE" y8:=⟨Y.y.ci Y.f.g5⟩
instance:Co B "MOST_BY_COMMAND" vO:=⟨Y.y.ci Y.f.g6⟩
instance:Co B "MOST_DEEDS" z5:=⟨Y.y.ci Y.f.g7⟩
instance:Co B "MOST_DEEP" A8:=⟨Y.y.ci Y.f.g8⟩
instance:Co B "MOST_IN_NAME" yi:=⟨Y.y.ci Y.f.g9⟩
instance:Co B "MOST_IN_WORD" yj:=⟨Y.y.ci Y.f.g10⟩
instance:Co B "MOST_MARKS" uM:=⟨Y.y.ci Y.f.g11⟩
instance:Co B "MOST_OF_MARK" yk:=⟨Y.y.ci Y.f.g12⟩
instance:Co B "MOST_ROOMS" z7:=⟨Y.y.ci Y.f.g13⟩
instance:Co B "MOST_RULES" Aa:=⟨Y.y.ci Y.f.g14⟩
instance:Co B "MOST_SIGNS" z6:=⟨Y.y.ci Y.f.g15⟩
instance:Co B "MOST_TESTS" z4:=⟨Y.y.ci Y.f.g16⟩
instance:Co B "MOST_VERBS" z8:=⟨Y.y.ci Y.f.g17⟩
instance:Co B "MOST_WAYS" ym:=⟨Y.y.ci Y.f.g18⟩
instance:Co B "MOST_WORDS" z9:=⟨Y.y.ci Y.f.g19⟩
instance:Co B "NO_NAMES" CA:=⟨Y.y.cs Y.f.g20⟩
instance:Co B "NO_WORDS" CB:=⟨Y.y.cs Y.f.g21⟩
instance:Co B "NO_WORDS_OF_ROWS" vh:=⟨Y.y.cs Y.f.g22⟩
instance:Ff B wF "copied_rules" := ⟨sT (Y.f.k14.at 0 rfl)⟩
instance:Ff B yN "deeds" := ⟨sT (Y.f.k13.at 0 rfl)⟩
instance:Ff B rH "form" := ⟨sT (Y.f.k2.at 0 rfl)⟩
instance:Ff B D4 "inner" := ⟨sT (Y.f.k9.at 0 rfl)⟩
instance:Ff B rD "joining" := ⟨sT (Y.f.k2.at 1 rfl)⟩
instance:Ff B uB "kept_things" := ⟨sT (Y.f.k14.at 1 rfl)⟩
instance:Ff B yh "kept_verbs" := ⟨sT (Y.f.k14.at 2 rfl)⟩
instance:Ff B vZ "kept_ways" := ⟨sT (Y.f.k14.at 3 rfl)⟩
instance:Ff B qy "kind" := ⟨orQ (sT (Y.f.k0.at 0 rfl)) (Y.f.k7.at 0 rfl)⟩
instance:Ff B sI "most" := ⟨sT (Y.f.k1.at 0 rfl)⟩
instance:Ff B vI "mosts_by_name" := ⟨sT (Y.f.k14.at 4 rfl)⟩
instance:Ff B pI "name" := ⟨orQ (orQ (sT (Y.f.k0.at 1 rfl)) (Y.f.k1.at 1 rfl)) (Y.f.k2.at 2 rfl)⟩
instance:Ff B IR "one" := ⟨sT (Y.f.k10.at 0 rfl)⟩
instance:Ff B D5 "other" := ⟨sT (Y.f.k10.at 1 rfl)⟩
instance:Ff B sr "others" := ⟨sT (Y.f.k2.at 3 rfl)⟩
instance:Ff B yO "place" := ⟨orQ (sT (Y.f.k3.at 0 rfl)) (Y.f.k11.at 0 rfl)⟩
instance:Ff B vJ "refuses" := ⟨sT (Y.f.k13.at 1 rfl)⟩
instance:Ff B wG "shared_rules" := ⟨sT (Y.f.k14.at 5 rfl)⟩
instance:Ff B wH "shared_verbs" := ⟨sT (Y.f.k14.at 6 rfl)⟩
instance:Ff B rh "start" := ⟨orQ (sT (Y.f.k0.at 2 rfl)) (Y.f.k1.at 2 rfl)⟩
instance:Ff B tQ "term" := ⟨orQ (orQ (orQ (orQ (orQ (orQ (sT (Y.f.k3.at 1 rfl)) (Y.f.k4.at 0 rfl)) (Y.f.k5.at 0 rfl)) (Y.f.k6.at 0 rfl)) (Y.f.k7.at 1 rfl)) (Y.f.k11.at 1 rfl)) (Y.f.k12.at 0 rfl)⟩
instance:Ff B AD "tests" := ⟨sT (Y.f.k13.at 2 rfl)⟩
instance:Ff B Cy "text" := ⟨sT (Y.f.k13.at 3 rfl)⟩
instance:Ff B vg "things_by_name" := ⟨sT (Y.f.k14.at 7 rfl)⟩
instance:Ff B AE "value" := ⟨orQ (sT (Y.f.k6.at 1 rfl)) (Y.f.k12.at 1 rfl)⟩
instance:Ff B tR "verb" := ⟨sT (Y.f.k13.at 4 rfl)⟩
instance:Ff B vK "verbs_by_word" := ⟨sT (Y.f.k14.at 8 rfl)⟩
instance:Ff B Gf "word" := ⟨sT (Y.f.k8.at 0 rfl)⟩
instance:Ff B r9 "words" := ⟨sT (Y.f.k0.at 3 rfl)⟩
instance:Ff B v3 "your_name" := ⟨sT (Y.f.k14.at 9 rfl)⟩
instance:Af B 0 ["kind", "name", "start", "words"]:=⟨Y.f.k0⟩
instance:Af B 1 ["most", "name", "start"]:=⟨Y.f.k1⟩
instance:Af B 2 ["form", "joining", "name", "others"]:=⟨Y.f.k2⟩
instance:Af B 3 ["place", "term"]:=⟨Y.f.k3⟩
instance:Af B 4 ["term"]:=⟨Y.f.k4⟩
instance:Af B 5 ["term"]:=⟨Y.f.k5⟩
instance:Af B 6 ["term", "value"]:=⟨Y.f.k6⟩
instance:Af B 7 ["kind", "term"]:=⟨Y.f.k7⟩
instance:Af B 8 ["word"]:=⟨Y.f.k8⟩
instance:Af B 9 ["inner"]:=⟨Y.f.k9⟩
instance:Af B 10 ["one", "other"]:=⟨Y.f.k10⟩
instance:Af B 11 ["place", "term"]:=⟨Y.f.k11⟩
instance:Af B 12 ["term", "value"]:=⟨Y.f.k12⟩
instance:Af B 13 ["deeds", "refuses", "tests", "text", "verb"]:=⟨Y.f.k13⟩
instance:Af B 14 ["copied_rules", "kept_things", "kept_verbs", "kept_ways", "mosts_by_name", "shared_rules", "shared_verbs", "things_by_name", "verbs_by_word", "your_name", "kept_dark", "kept_marks", "kept_rules", "rules_by_verb"]:=⟨Y.f.k14⟩
instance:Ic B "At" Vj:=⟨3,qI Y.f.i_At rfl (yg 16 _) (xh.at ⟨Y.f.k0.ci,Y.f.k1.ci,Y.f.k2.ci,Y.f.k3.ci,Y.f.k4.ci,Y.f.k5.ci,Y.f.k6.ci,Y.f.k7.ci,Y.f.k8.ci,Y.f.k9.ci,Y.f.k10.ci,Y.f.k11.ci,Y.f.k12.ci,Y.f.k13.ci,Y.f.k14.ci,Y.f.k15.ci,trivial⟩),Y.y.g Y.f.a3⟩
instance:Ic B "Both" Hv:=⟨10,qI Y.f.i_Both rfl (yg 16 _) (xh.at ⟨Y.f.k0.ci,Y.f.k1.ci,Y.f.k2.ci,Y.f.k3.ci,Y.f.k4.ci,Y.f.k5.ci,Y.f.k6.ci,Y.f.k7.ci,Y.f.k8.ci,Y.f.k9.ci,Y.f.k10.ci,Y.f.k11.ci,Y.f.k12.ci,Y.f.k13.ci,Y.f.k14.ci,Y.f.k15.ci,trivial⟩),Y.y.g Y.f.a10⟩
instance:Ic B "Has" PD:=⟨4,qI Y.f.i_Has rfl (yg 16 _) (xh.at ⟨Y.f.k0.ci,Y.f.k1.ci,Y.f.k2.ci,Y.f.k3.ci,Y.f.k4.ci,Y.f.k5.ci,Y.f.k6.ci,Y.f.k7.ci,Y.f.k8.ci,Y.f.k9.ci,Y.f.k10.ci,Y.f.k11.ci,Y.f.k12.ci,Y.f.k13.ci,Y.f.k14.ci,Y.f.k15.ci,trivial⟩),Y.y.g Y.f.a4⟩
instance:Ic B "Kind" Ml:=⟨7,qI Y.f.i_Kind rfl (yg 16 _) (xh.at ⟨Y.f.k0.ci,Y.f.k1.ci,Y.f.k2.ci,Y.f.k3.ci,Y.f.k4.ci,Y.f.k5.ci,Y.f.k6.ci,Y.f.k7.ci,Y.f.k8.ci,Y.f.k9.ci,Y.f.k10.ci,Y.f.k11.ci,Y.f.k12.ci,Y.f.k13.ci,Y.f.k14.ci,Y.f.k15.ci,trivial⟩),Y.y.g Y.f.a7⟩
instance:Ic B "Lit" PF:=⟨15,qI Y.f.i_Lit rfl (yg 16 _) (xh.at ⟨Y.f.k0.ci,Y.f.k1.ci,Y.f.k2.ci,Y.f.k3.ci,Y.f.k4.ci,Y.f.k5.ci,Y.f.k6.ci,Y.f.k7.ci,Y.f.k8.ci,Y.f.k9.ci,Y.f.k10.ci,Y.f.k11.ci,Y.f.k12.ci,Y.f.k13.ci,Y.f.k14.ci,Y.f.k15.ci,trivial⟩),Y.y.g Y.f.a15⟩
instance:Ic B "Mark" Mm:=⟨1,qI Y.f.i_Mark rfl (yg 16 _) (xh.at ⟨Y.f.k0.ci,Y.f.k1.ci,Y.f.k2.ci,Y.f.k3.ci,Y.f.k4.ci,Y.f.k5.ci,Y.f.k6.ci,Y.f.k7.ci,Y.f.k8.ci,Y.f.k9.ci,Y.f.k10.ci,Y.f.k11.ci,Y.f.k12.ci,Y.f.k13.ci,Y.f.k14.ci,Y.f.k15.ci,trivial⟩),Y.y.g Y.f.a1⟩
instance:Ic B "Marked" Gg:=⟨6,qI Y.f.i_Marked rfl (yg 16 _) (xh.at ⟨Y.f.k0.ci,Y.f.k1.ci,Y.f.k2.ci,Y.f.k3.ci,Y.f.k4.ci,Y.f.k5.ci,Y.f.k6.ci,Y.f.k7.ci,Y.f.k8.ci,Y.f.k9.ci,Y.f.k10.ci,Y.f.k11.ci,Y.f.k12.ci,Y.f.k13.ci,Y.f.k14.ci,Y.f.k15.ci,trivial⟩),Y.y.g Y.f.a6⟩
instance:Ic B "Move" Mn:=⟨11,qI Y.f.i_Move rfl (yg 16 _) (xh.at ⟨Y.f.k0.ci,Y.f.k1.ci,Y.f.k2.ci,Y.f.k3.ci,Y.f.k4.ci,Y.f.k5.ci,Y.f.k6.ci,Y.f.k7.ci,Y.f.k8.ci,Y.f.k9.ci,Y.f.k10.ci,Y.f.k11.ci,Y.f.k12.ci,Y.f.k13.ci,Y.f.k14.ci,Y.f.k15.ci,trivial⟩),Y.y.g Y.f.a11⟩
instance:Ic B "Not" Mo:=⟨9,qI Y.f.i_Not rfl (yg 16 _) (xh.at ⟨Y.f.k0.ci,Y.f.k1.ci,Y.f.k2.ci,Y.f.k3.ci,Y.f.k4.ci,Y.f.k5.ci,Y.f.k6.ci,Y.f.k7.ci,Y.f.k8.ci,Y.f.k9.ci,Y.f.k10.ci,Y.f.k11.ci,Y.f.k12.ci,Y.f.k13.ci,Y.f.k14.ci,Y.f.k15.ci,trivial⟩),Y.y.g Y.f.a9⟩
instance:Ic B "Put" PH:=⟨12,qI Y.f.i_Put rfl (yg 16 _) (xh.at ⟨Y.f.k0.ci,Y.f.k1.ci,Y.f.k2.ci,Y.f.k3.ci,Y.f.k4.ci,Y.f.k5.ci,Y.f.k6.ci,Y.f.k7.ci,Y.f.k8.ci,Y.f.k9.ci,Y.f.k10.ci,Y.f.k11.ci,Y.f.k12.ci,Y.f.k13.ci,Y.f.k14.ci,Y.f.k15.ci,trivial⟩),Y.y.g Y.f.a12⟩
instance:Ic B "Rule" Mp:=⟨13,qI Y.f.i_Rule rfl (yg 16 _) (xh.at ⟨Y.f.k0.ci,Y.f.k1.ci,Y.f.k2.ci,Y.f.k3.ci,Y.f.k4.ci,Y.f.k5.ci,Y.f.k6.ci,Y.f.k7.ci,Y.f.k8.ci,Y.f.k9.ci,Y.f.k10.ci,Y.f.k11.ci,Y.f.k12.ci,Y.f.k13.ci,Y.f.k14.ci,Y.f.k15.ci,trivial⟩),Y.y.g Y.f.a13⟩
instance:Ic B "Seen" Mq:=⟨5,qI Y.f.i_Seen rfl (yg 16 _) (xh.at ⟨Y.f.k0.ci,Y.f.k1.ci,Y.f.k2.ci,Y.f.k3.ci,Y.f.k4.ci,Y.f.k5.ci,Y.f.k6.ci,Y.f.k7.ci,Y.f.k8.ci,Y.f.k9.ci,Y.f.k10.ci,Y.f.k11.ci,Y.f.k12.ci,Y.f.k13.ci,Y.f.k14.ci,Y.f.k15.ci,trivial⟩),Y.y.g Y.f.a5⟩
instance:Ic B "Thing" IS:=⟨0,qI Y.f.i_Thing rfl (yg 16 _) (xh.at ⟨Y.f.k0.ci,Y.f.k1.ci,Y.f.k2.ci,Y.f.k3.ci,Y.f.k4.ci,Y.f.k5.ci,Y.f.k6.ci,Y.f.k7.ci,Y.f.k8.ci,Y.f.k9.ci,Y.f.k10.ci,Y.f.k11.ci,Y.f.k12.ci,Y.f.k13.ci,Y.f.k14.ci,Y.f.k15.ci,trivial⟩),Y.y.g Y.f.a0⟩
instance:Ic B "Verb" Mr:=⟨2,qI Y.f.i_Verb rfl (yg 16 _) (xh.at ⟨Y.f.k0.ci,Y.f.k1.ci,Y.f.k2.ci,Y.f.k3.ci,Y.f.k4.ci,Y.f.k5.ci,Y.f.k6.ci,Y.f.k7.ci,Y.f.k8.ci,Y.f.k9.ci,Y.f.k10.ci,Y.f.k11.ci,Y.f.k12.ci,Y.f.k13.ci,Y.f.k14.ci,Y.f.k15.ci,trivial⟩),Y.y.g Y.f.a2⟩
instance:Ic B "Word" Ms:=⟨8,qI Y.f.i_Word rfl (yg 16 _) (xh.at ⟨Y.f.k0.ci,Y.f.k1.ci,Y.f.k2.ci,Y.f.k3.ci,Y.f.k4.ci,Y.f.k5.ci,Y.f.k6.ci,Y.f.k7.ci,Y.f.k8.ci,Y.f.k9.ci,Y.f.k10.ci,Y.f.k11.ci,Y.f.k12.ci,Y.f.k13.ci,Y.f.k14.ci,Y.f.k15.ci,trivial⟩),Y.y.g Y.f.a8⟩
instance:K0f B "Lit" 15:=⟨⟨Y.f.k15.mks,Y.f.n_Lit,Y.f.k15.kp⟩,Y.y.g Y.f.a15⟩
instance:Ij B 16:=⟨VU Y.f.nd⟩
local macro_rules|`(tactic|trivial)=>do let x:=("Vi U4 U3 U5 U6 IJ Va RY SD U7 RW SJ SC RD RE SE SG Sx R7 Sr Sa SK RN RO RP RQ RI SI Vc SL zr_rpN RJ R0 zr_mqI SN SQ SF S6 RZ RX RV RB zr_i2I Se Sf U8 SU RT RU RR Vd Ve Sj RG RH Sk RK S0 S4 S5 SO SR SV U9 R8 R9 SW SX Sm Sb S9 Sn So Sq SY SZ OX OW OY zr_gtuL Ss Su Sv Sd Sg zr_xeI zr_clI Sh To Si OV SM Ti zr_srI Tg zr_wxI zr_xsI S7 S8 OU".splitOn " ").toArray.map fun s=>Lean.mkIdent (.mkSimple s);`(tactic|repeat' first|(with_reducible apply eqI);(first|rfl|kernel_rfl)|((with_reducible first|apply Sy|apply SA);rotate_left 7;rfl)|(with_reducible first $[|apply $x]*)|(with_reducible intro _)|exact l8)
instance:Df B 1 "is_small_letters" (spF B.G sU):=gF4 rfl Y.f.q23 rfl (by unfold vm;trivial)
instance:Df B 2 "is_name" (spF B.G sA):=gF4 rfl Y.f.q24 rfl (by unfold D6;trivial)
instance:Df B 2 "is_word" (spF B.G sC):=gF4 rfl Y.f.q25 rfl (by unfold D7;trivial)
instance:Df B 1 "is_one_of" (spF B.G ql):=gF4 rfl Y.f.q26 rfl (by unfold A9;trivial)
instance:Df B 1 "is_whole" (spF B.G vn):=gF4 rfl Y.f.q27 rfl (by unfold CC;trivial)
instance:Df B 1 "is_list_up_to" (spF B.G qw):=gF4 rfl Y.f.q28 rfl (by unfold xK;trivial)
instance:Df B 1 "own_list" (spF B.G zm):=gF4 rfl Y.f.q29 rfl (by unfold CD;trivial)
theorem ze:Bdz B (nmO (inClass (top 56) 0)) "Thing.__init__" (inClass (top 56) 0) (qo (inClass (top 56) 0)) 0 xj:=by
 unfold xj;refine IJ ?_ ?_
 all_goals trivial
instance:Kf B 1 "Thing" 0 sD [D.non]:=gJ4 (dds:=[D.non]) Y.f.k0 Y.f.a0 rfl Y.f.q30 rfl rfl ze 0
instance:Kf B 1 "Thing" 0 sD []:=gJ4 (dds:=[D.non]) Y.f.k0 Y.f.a0 rfl Y.f.q30 rfl rfl ze 1
instance:Kf B 1 "Mark" 1 yn []:=gI4 Y.f.k1 Y.f.a1 rfl Y.f.q31 rfl rfl (by unfold Ba;trivial)
theorem uR:Bdz B (nmO (inClass (top 58) 0)) "Verb.__init__" (inClass (top 58) 0) (qo (inClass (top 58) 0)) 0 yp:=by
 unfold yp;refine IJ ?_ ?_
 all_goals trivial
instance:Kf B 1 "Verb" 2 qx [D.non,(D.str "one"),D.non]:=gJ4 (dds:=[D.non,(D.str "one"),D.non]) Y.f.k2 Y.f.a2 rfl Y.f.q32 rfl rfl uR 0
instance:Kf B 1 "Verb" 2 qx [(D.str "one"),D.non]:=gJ4 (dds:=[D.non,(D.str "one"),D.non]) Y.f.k2 Y.f.a2 rfl Y.f.q32 rfl rfl uR 1
instance:Kf B 1 "Verb" 2 qx [D.non]:=gJ4 (dds:=[D.non,(D.str "one"),D.non]) Y.f.k2 Y.f.a2 rfl Y.f.q32 rfl rfl uR 2
instance:Kf B 1 "Verb" 2 qx []:=gJ4 (dds:=[D.non,(D.str "one"),D.non]) Y.f.k2 Y.f.a2 rfl Y.f.q32 rfl rfl uR 3
instance:Kf B 1 "At" 3 yP []:=gI4 Y.f.k3 Y.f.a3 rfl Y.f.q33 rfl rfl (by unfold D8;trivial)
instance:Kf B 1 "Has" 4 xk []:=gI4 Y.f.k4 Y.f.a4 rfl Y.f.q34 rfl rfl (by unfold CG;trivial)
instance:Kf B 1 "Seen" 5 Bc []:=gI4 Y.f.k5 Y.f.a5 rfl Y.f.q35 rfl rfl (by unfold Bb;trivial)
instance:Kf B 1 "Marked" 6 qV []:=gI4 Y.f.k6 Y.f.a6 rfl Y.f.q36 rfl rfl (by unfold y9;trivial)
instance:Kf B 1 "Kind" 7 rP []:=gI4 Y.f.k7 Y.f.a7 rfl Y.f.q37 rfl rfl (by unfold Bd;trivial)
instance:Kf B 1 "Word" 8 yt []:=gI4 Y.f.k8 Y.f.a8 rfl Y.f.q38 rfl rfl (by unfold Be;trivial)
instance:Kf B 1 "Not" 9 rT []:=gI4 Y.f.k9 Y.f.a9 rfl Y.f.q39 rfl rfl (by unfold CH;trivial)
instance:Kf B 1 "Both" 10 Bh []:=gI4 Y.f.k10 Y.f.a10 rfl Y.f.q40 rfl rfl (by unfold Bf;trivial)
instance:Kf B 1 "Move" 11 su []:=gI4 Y.f.k11 Y.f.a11 rfl Y.f.q41 rfl rfl (by unfold Bi;trivial)
instance:Kf B 1 "Put" 12 sV []:=gI4 Y.f.k12 Y.f.a12 rfl Y.f.q42 rfl rfl (by unfold CJ;trivial)
instance:Kf B 2 "Rule" 13 tu []:=gJ4 (dds:=[(D.bl false)]) Y.f.k13 Y.f.a13 rfl Y.f.q43 rfl rfl (by unfold Bj;trivial) 1
instance:Mf B 9 "can_hold" qM:=⟨λc h e=>by
 unfold qM at e;split at e
 ·cases e;exact hF4 (k:=8) Y.f.k0 rfl Y.f.q44 rfl (by unfold wI;trivial)
 ·cases e⟩
instance:Mf B 9 "has_mark" rJ:=⟨λc h e=>by
 unfold rJ at e;split at e
 ·cases e;exact hF4 (k:=8) Y.f.k0 rfl Y.f.q45 rfl (by unfold wJ;trivial)
 ·cases e⟩
instance:Mf B 9 "is_plainly" qY:=⟨λc h e=>by
 unfold qY at e;split at e
 ·cases e;exact hF4 (k:=8) Y.f.k0 rfl Y.f.q46 rfl (by unfold vp;trivial)
 ·cases e⟩
instance:Df B 1 "refuse_unless" (spF B.G pJ):=gF4 rfl Y.f.q47 rfl (by unfold xM;trivial)
instance:Df B 1 "count_of" (spF B.G xl):=gF4 rfl Y.f.q48 rfl (by unfold CK;trivial)
instance:Df B 10 "plain_ones" (spN B.G sE):=gN4 rfl Y.f.q49 rfl (by unfold Ab;trivial)
instance:Df B 2 "is_mark" (spF B.G AG):=gF4 rfl Y.f.q50 rfl (by unfold AF;trivial)
instance:Df B 11 "check_things" (spF B.G vt):=gF4 rfl Y.f.q51 rfl (by unfold vq;trivial)
instance:Df B 3 "check_marks" (spF B.G v7):=gF4 rfl Y.f.q52 rfl (by unfold v5;trivial)
instance:Df B 1 "are_unlike" (spF B.G rU):=gF4 rfl Y.f.q53 rfl (by unfold Ac;trivial)
instance:Df B 3 "check_names" (spF B.G wa):=gF4 rfl Y.f.q54 rfl (by unfold v8;trivial)
instance:Df B 10 "mark_names" (spN B.G uN):=gN4 rfl Y.f.q55 rfl (by unfold Ad;trivial)
instance:Df B 10 "is_start" (spF B.G zq):=gF4 rfl Y.f.q56 rfl (by unfold zp;trivial)
instance:Df B 1 "comes_to_room" (spF B.G uC):=gF4 rfl Y.f.q57 rfl (by unfold xN;trivial)
instance:Df B 11 "check_starts" (spF B.G vw):=gF5 ["things", "starts", "thing"] rfl Y.f.q58 rfl (by unfold vv;trivial)
instance:Df B 3 "are_words" (spF B.G vP):=gF4 rfl Y.f.q59 rfl (by unfold Bk;trivial)
instance:Df B 1 "has_all" (spF B.G wL):=gF4 rfl Y.f.q60 rfl (by unfold D9;trivial)
instance:Df B 2 "is_told_apart" (spF B.G uE):=gF4 rfl Y.f.q61 rfl (by unfold uD;trivial)
instance:Df B 11 "check_words_of_things" (spF B.G rL):=gF4 rfl Y.f.q62 rfl (by unfold rK;trivial)
instance:Df B 2 "check_dark" (spF B.G xp):=gF4 rfl Y.f.q63 rfl (by unfold xn;trivial)
instance:Df B 3 "is_way" (spF B.G CM):=gF4 rfl Y.f.q64 rfl (by unfold CL;trivial)
instance:Df B 4 "check_ways" (spF B.G xt):=gF4 rfl Y.f.q65 rfl (by unfold xq;trivial)
instance:Df B 3 "is_verb" (spF B.G Eb):=gF4 rfl Y.f.q66 rfl (by unfold Ea;trivial)
instance:Df B 4 "check_verbs" (spF B.G sJ):=gF4 rfl Y.f.q67 rfl (by unfold za;trivial)
instance:Df B 1 "are_apart" (spF B.G uq):=gF4 rfl Y.f.q68 rfl (by unfold Bl;trivial)
instance:Df B 11 "check_vocabulary" (spF B.G rV):=gF4 rfl Y.f.q69 rfl (by unfold sX;trivial)
instance:Df B 12 "check_parts" (spF B.G wc):=gF4 rfl Y.f.q70 rfl (by unfold wb;trivial)
instance:Df B 4 "does" (spF B.G vx):=gF4 rfl Y.f.q71 rfl (by unfold Mu;trivial)
instance:Df B 4 "refuses" (spF B.G qG):=gF4 rfl Y.f.q72 rfl (by unfold Ec;trivial)
instance:Df B 5 "hand_rules" (spN B.G xu):=gN4 rfl Y.f.q73 rfl (by unfold Ae;trivial)
instance:Df B 5 "put_rules" (spN B.G yu):=gN4 rfl Y.f.q74 rfl (by unfold Bm;trivial)
instance:Df B 5 "lid_rules" (spN B.G yw):=gN4 rfl Y.f.q75 rfl (by unfold Bn;trivial)
instance:Df B 5 "flame_rules" (spN B.G we):=gN4 rfl Y.f.q76 rfl (by unfold zb;trivial)
instance:Df B 3 "way_tests" (spN B.G yx):=gN4 rfl Y.f.q77 rfl (by unfold Bo;trivial)
instance:Df B 5 "go_rules" (spN B.G zt):=gN4 rfl Y.f.q78 rfl (by unfold zr;trivial)
instance:Df B 5 "wait_rules" (spN B.G Ah):=gN4 rfl Y.f.q79 rfl (by unfold Ag;trivial)
instance:Df B 6 "common_rules" (spN B.G vy):=gN4 rfl Y.f.q80 rfl (by unfold yy;trivial)
instance:Df B 3 "common_verbs" (spN B.G tS):=gN4 rfl Y.f.q81 rfl (by unfold yz;trivial)
instance:Df B 1 "by_name" (spF B.G AI):=gF4 rfl Y.f.q82 rfl (by unfold AH;trivial)
instance:Df B 10 "mosts_by_name" (spF B.G uG):=gF4 rfl Y.f.q83 rfl (by unfold uF;trivial)
instance:Df B 1 "verbs_by_word" (spF B.G sL):=gF4 rfl Y.f.q84 rfl (by unfold xO;trivial)
instance:Df B 1 "by_verb" (spF B.G Ee):=gF4 rfl Y.f.q85 rfl (by unfold Ed;refine⟨J2 (stW (by kernel_rfl) Fs rfl) (Kr l8 rfl (FP (FB B.G.K (G0 (pvI (by kernel_rfl))))) (pgI (by kernel_rfl)) (Eu (HP (KY B.G.K fP iM kI Ar (LO (pvI (by kernel_rfl)) (La (G0 (pvI (by kernel_rfl))) (Ff.p (B:=B))) (KA uv) ⟨rfl,rfl,rfl,rfl⟩) (rj (pvI (by kernel_rfl)) uv))))) (Gy (PE.ghost (pvI (by kernel_rfl))))⟩)
instance:Mf B 9 "of_kind" wg:=⟨λc h e=>by
 unfold wg at e;split at e
 ·cases e;exact hF4 (k:=8) Y.f.k14 rfl Y.f.q86 rfl (by unfold xP;trivial)
 ·cases e⟩
instance:Mf B 9 "all_verbs" rZ:=⟨λc h e=>by
 unfold rZ at e;split at e
 ·cases e;exact hF4 (k:=8) Y.f.k14 rfl Y.f.q87 rfl (by unfold vQ;trivial)
 ·cases e⟩
instance:Df B 1 "is_same_text" (spF B.G tT):=gF4 rfl Y.f.q88 rfl (by unfold yA;trivial)
instance:Df B 4 "copy_of" (spF B.G AJ):=gF4 rfl Y.f.q89 rfl (by unfold Ef;trivial)
instance:Mf B 9 "thing_of" rM:=⟨λc h e=>by
 unfold rM at e;split at e
 ·cases e;exact hF4 (k:=8) Y.f.k14 rfl Y.f.q90 rfl (by unfold wM;trivial)
 ·cases e⟩
instance:Mf B 9 "most_of" uh:=⟨λc h e=>by
 unfold uh at e;split at e
 ·cases e;exact hF4 (k:=8) Y.f.k14 rfl Y.f.q91 rfl (by unfold xQ;trivial)
 ·cases e⟩
instance:Mf B 9 "verb_of" sd:=⟨λc h e=>by
 unfold sd at e;split at e
 ·cases e;exact hF4 (k:=8) Y.f.k14 rfl Y.f.q92 rfl (by unfold xR;trivial)
 ·cases e⟩
instance:Mf B 9 "you" yQ:=⟨λc h e=>by
 unfold yQ at e;split at e
 ·cases e;exact hF4 (k:=8) Y.f.k14 rfl Y.f.q93 rfl (by unfold Bp;trivial)
 ·cases e⟩
instance:Df B 2 "is_by_command" (spF B.G qA):=gF4 rfl Y.f.q94 rfl (by unfold xS;trivial)
instance:Df B 2 "is_here" (spF B.G ue):=gF4 rfl Y.f.q95 rfl (by unfold Eg;trivial)
instance:Df B 10 "named" (spF B.G uO):=gF4 rfl Y.f.q96 rfl (by unfold IU;trivial)
instance:Df B 11 "is_of_kind" (spF B.G uP):=gF4 rfl Y.f.q97 rfl (by unfold Ai;trivial)
instance:Df B 11 "is_term" (spF B.G wN):=gF4 rfl Y.f.q98 rfl (by unfold Eh;trivial)
instance:Df B 11 "is_place" (spF B.G xx):=gF4 rfl Y.f.q99 rfl (by unfold zu;trivial)
instance:Df B 12 "is_moved" (spF B.G zw):=gF4 rfl Y.f.q100 rfl (by unfold zv;trivial)
instance:Df B 10 "is_mark_value" (spF B.G sO):=gF4 rfl Y.f.q101 rfl (by unfold sN;trivial)
instance:Df B 13 "is_move" (spF B.G AL):=gF4 rfl Y.f.q102 rfl (by unfold AK;trivial)
instance:Df B 1 "is_said" (spF B.G wQ):=gF4 rfl Y.f.q103 rfl (by unfold Ei;trivial)
instance:Df B 10 "is_verb_name" (spF B.G vz):=gF4 rfl Y.f.q104 rfl (by unfold yB;trivial)
instance:Df B 1 "does_or_refuses" (spF B.G tU):=gF4 rfl Y.f.q105 rfl (by unfold vR;trivial)
instance:Df B 12 "is_plain_test" (spF B.G uI):=gF4 rfl Y.f.q106 rfl (by unfold qH;trivial)
instance:Df B 1 "is_test" (spF B.G (tD 0)):=gF4 (k:=0) rfl Y.f.q107 rfl (by trivial)
instance:Df B 13 "is_test" (spF B.G (tD 1)):=gF4 (k:=12) rfl Y.f.q107 rfl (by unfold tw;trivial)
instance:Df B 14 "is_test" (spF B.G (tD 2)):=gF4 (k:=13) rfl Y.f.q107 rfl (by unfold tw;trivial)
instance:Df B 15 "is_test" (spF B.G (tD 3)):=gF4 (k:=14) rfl Y.f.q107 rfl (by unfold tw;trivial)
instance:Df B 16 "is_test" (spF B.G (tD 4)):=gF4 (k:=15) rfl Y.f.q107 rfl (by unfold tw;trivial)
instance:Df B 14 "is_deed" (spF B.G AM):=gF4 rfl Y.f.q108 rfl (by unfold yR;trivial)
instance:Df B 18 "are_tests" (spF B.G yC):=gF4 rfl Y.f.q109 rfl (by unfold Bq;trivial)
instance:Df B 15 "are_deeds" (spF B.G yD):=gF4 rfl Y.f.q110 rfl (by unfold Br;trivial)
instance:Df B 19 "is_rule" (spF B.G AO):=gF4 rfl Y.f.q111 rfl (by unfold AN;trivial)
instance:Kf B 20 "World" 14 tW []:=gI4 Y.f.k14 Y.f.a14 rfl Y.f.q112 rfl rfl (by unfold tV;trivial)
instance:Mf B 9 "names" tE:=⟨λc h e=>by
 unfold tE at e;split at e
 ·cases e;exact hF4 (k:=8) Y.f.k14 rfl Y.f.q113 rfl (by unfold zc;trivial)
 ·cases e⟩
instance:Mf B 9 "way_words" sP:=⟨λc h e=>by
 unfold sP at e;split at e
 ·cases e;exact hF4 (k:=8) Y.f.k14 rfl Y.f.q114 rfl (by unfold vS;trivial)
 ·cases e⟩
instance:Df B 10 "objects_of" (spN B.G rW):=gN4 rfl Y.f.q115 rfl (by unfold sF;trivial)
instance:Df B 11 "commands" (spN B.G vA):=gN4 rfl Y.f.q116 rfl (by unfold zx;trivial)
instance:Df B 1 "_law_cell_at" (spF B.G rN):=gF4 rfl Y.f.q117 rfl (by unfold yE;trivial)
instance:Df B 1 "_law_digit" (spM B.G pq):=gM4 rfl Y.f.q118 rfl rfl (by unfold uQ;trivial)
instance:Df B 1 "_law_named" (spN B.G pS):=gN4 rfl Y.f.q119 rfl (by unfold Aj;trivial)
instance:Df B 3 "_law_things" (spM B.G wt):=gM5 ["_law_state", "_law_rooms", "_law_things_here", "_law_holders", "_law_pool", "_law_turn", "_law_k", "_law_name", "_law_words", "_law_kind"] rfl Y.f.q120 rfl rfl (by unfold wm;trivial)
instance:Df B 3 "_law_marks" (spM B.G xA):=gM4 rfl Y.f.q121 rfl rfl (by unfold xy;trivial)
instance:Df B 2 "_law_ways" (spM B.G yG):=gM5 ["_law_state", "_law_things_here", "_law_marks_here", "_law_rooms", "_law_doors", "_law_ways_here", "_law_k", "_law_room", "_law_word", "_law_goal", "_law_mark"] rfl Y.f.q122 rfl rfl (by unfold yF;trivial)
instance:Df B 3 "_law_verbs" (spM B.G xC):=gM4 rfl Y.f.q123 rfl rfl (by unfold xB;trivial)
instance:Df B 2 "_law_term" (spM B.G qW):=gM4 rfl Y.f.q124 rfl rfl (by unfold sv;trivial)
instance:Df B 2 "_law_mark_term" (spM B.G qK):=gM4 rfl Y.f.q125 rfl rfl (by unfold qJ;trivial)
instance:Df B 3 "_law_marked" (spM B.G wu):=gM4 rfl Y.f.q126 rfl rfl (by unfold ui;trivial)
instance:Df B 1 "_law_test" (spM B.G (qN 0)):=gM4 (k:=0) rfl Y.f.q127 rfl rfl (by trivial)
instance:Df B 4 "_law_test" (spM B.G (qN 1)):=gM4 (k:=3) rfl Y.f.q127 rfl rfl (by unfold qt;trivial)
instance:Df B 5 "_law_test" (spM B.G (qN 2)):=gM4 (k:=4) rfl Y.f.q127 rfl rfl (by unfold qt;trivial)
instance:Df B 6 "_law_test" (spM B.G (qN 3)):=gM4 (k:=5) rfl Y.f.q127 rfl rfl (by unfold qt;trivial)
instance:Df B 3 "_law_deed" (spM B.G tG):=gM4 rfl Y.f.q128 rfl rfl (by unfold ur;trivial)
instance:Df B 8 "_law_rules" (spM B.G xE):=gM5 ["_law_state", "_law_things_here", "_law_marks_here", "_law_verbs_here", "_law_most", "_law_forms", "_law_rules_here", "_law_k", "_law_verb", "_law_form", "_law_tests", "_law_refuses", "_law_deeds"] rfl Y.f.q129 rfl rfl (by unfold xD;trivial)
instance:Df B 9 "_law_made" (spM B.G tH):=gM4 rfl Y.f.q130 rfl rfl (by unfold yH;trivial)
instance:Df B 1 "_law_due" (spN B.G xF):=gN5 ["_law_things_here", "_law_ways_here", "_law_verbs_here", "_law_names", "_law_words", "_law_forms", "_law_found", "_law_verb", "_law_form", "_law_name"] rfl Y.f.q131 rfl (by unfold zy;trivial)
theorem M9:Bdz B (nmO (top 154)) "law" (top 154) (qo (top 154)) 21 IV:=by
 unfold IV;refine IJ ?_ ?_
 all_goals trivial
end
end K31x
namespace K31x
open PySem L2 L3 L4
def Jl(K:ak):Sp:=λvs H Q _=>∃(a:Addr) (ns:List Int),vs=[.ref a]/\SqL K H a (ns.map V.int)/\ns.length<=63/\∀H',Q (.bl true) H'
theorem Ep{G:Bg}{H:Hp}:∀ns:List Int,pE G H (ns.map D.int) (ns.map V.int)
 |[]=>qf
 |n::ns=>qr (rS n) (Ep ns)
theorem Ph{G:Bg}:∀vs H Q E,Jl G.K vs H Q E->spF G PJ vs H Q E:=λvs H Q E h=>by obtain⟨a,ns,rfl,hs,hl,k⟩:=h;refine⟨H,[.fzl (ns.map D.int)],.bl true,pL.refl _,qr (by unfold L4.Rep;exact⟨a,_,rfl,hs,Ep ns⟩) qf,TU ns hl,λv H0' H' _ _ _ _ r=>?_⟩;unfold L4.Rep at r;subst r;exact k H'
section
variable{K:ak}{x m q:Str}{st:Stmt}{f C:Addr}{oc:aa}{od:Option Addr}{kV doc pm:aa}{an:Option Addr}{cdv ct:aa}{osl:Array (Option aa)}
theorem Na(lk:K.lookup f=some ⟨oc,od,.func (dq x q (tI st) (qo st) (pP st) .none kV doc pm an cdv ct),osl⟩)(hc:fD K cdv q=true)(kp:cO K (.ref f)=true):∃fd,Fun K x q st f fd:=⟨_,⟨_,_,_,_,_,_,_,_,_,rfl,lk,hc⟩,kp⟩
theorem gd_mk(h:gn K aK x=some (some (.ref f)))(lk:K.lookup f=some ⟨oc,od,.func (dq x x (tI st) (qo st) (pP st) .none kV doc pm an cdv ct),osl⟩)(hc:fD K cdv x=true)(kp:cO K (.ref f)=true):GD K x st:=⟨f,(Na lk hc kp).imp λ_ F=>⟨h,F⟩⟩
theorem gm_mk(h:bT K (.ref C) m=some (some (.ref f)))(hf:ir K (.ref f)=true)(lk:K.lookup f=some ⟨oc,od,.func (dq m q (tI st) (qo st) (pP st) .none kV doc pm an cdv ct),osl⟩)(hc:fD K cdv q=true)(kp:cO K (.ref f)=true):GM K C m q st:=⟨f,(Na lk hc kp).imp λ_ F=>⟨h,hf,F⟩⟩
end
theorem all_mk{l:gh}{w:aq}{K:ak}{h:Heap}{mg:Str->Option aa}{fa:Addr}(X:K.In h)(Gn:h.Ns aK mg)(hfa:mg "law" = some (.ref fa)){C0 C1 C2 C3 C4 C5 C6 C7 C8 C9 C10 C11 C12 C13 C14 C15:Addr}(F:Fx K C0 C1 C2 C3 C4 C5 C6 C7 C8 C9 C10 C11 C12 C13 C14 C15):
  ∃fd:bB,(∀(s:ab) (v:aa),fE s fd ⟨[v],[]⟩ [("_law_script", v)])/\∀base:Heap,K.In base->base.Ns aK mg->uw l.prog w K mg base CX0 22 fa fd ["_law_script"] (Jl K):=by
 have gen:∃B:Bg,B.K=K/\B.ca 0=C0/\B.ca 1=C1/\B.ca 2=C2/\B.ca 3=C3/\B.ca 4=C4/\B.ca 5=C5/\B.ca 6=C6/\B.ca 7=C7/\B.ca 8=C8/\B.ca 9=C9/\B.ca 10=C10/\B.ca 11=C11/\B.ca 12=C12/\B.ca 13=C13/\B.ca 14=C14/\B.ca 15=C15:=⟨⟨K,λc=>[C0,C1,C2,C3,C4,C5,C6,C7,C8,C9,C10,C11,C12,C13,C14,C15].getD c 0⟩,rfl,rfl,rfl,rfl,rfl,rfl,rfl,rfl,rfl,rfl,rfl,rfl,rfl,rfl,rfl,rfl,rfl⟩;obtain⟨B,rfl,rfl,rfl,rfl,rfl,rfl,rfl,rfl,rfl,rfl,rfl,rfl,rfl,rfl,rfl,rfl,rfl⟩:=gen;have Z:∀base,Yx ⟨l.prog,w,mg,base,B⟩:=λbase=>⟨⟨h,X,Gn⟩,F⟩;obtain⟨f,fd,a,FF⟩:=F.q132;have e:=hfa.symm.trans (iq X Gn a);cases e;obtain⟨oc,od,kV,doc,pm,an,cdv,ct,osl,rfl,lk,hcd⟩:=FF.ex;exact⟨_,λs v=>.of_eq rfl,λbase _ _=>(Ls rfl rfl rfl FF (okk (N:=nmO (top 154)) (ps:=["_law_script"]) (np:=1) (n:=11) (by kernel_rfl)).1 ((@M9 _ (Z base)).ok rfl _)).imp (Ph (G:=B))⟩
theorem walk{l:gh}{q:ar}{loose:List Str}{XP:(Str->Option aa)->Heap->Prop}{YP:aq->Heap->Prop}{d:DefRec}{K:gm->ak}(hn:l.most=some 63)(hdf:d.params.defaults=[])
  (hY:∀(w:aq) (h:Heap),YP w h->(K w.params).In h)
  (F:∀(w:aq) (mg:Str->Option aa) (fa:Addr) (h:Heap),(K w.params).In h->h.Ns aK mg->mg d.name=some (.ref fa)->
   ∃fd:bB,(∀(s:ab) (u:aa),fE s fd ⟨[u],[]⟩ [("_law_script", u)])/\∀base:Heap,(K w.params).In base->base.Ns aK mg->uw l.prog w (K w.params) mg base CX0 22 fa fd ["_law_script"] (Jl (K w.params))):
  W.WalkO q loose XP YP l.row.toRowW d [] (λf vs=>jI f vs):=
 L2.NM (n:=63) (k:=22) (x:="_law_script") (CX:=λ_=>CX0) (sp:=λw=>Jl (K w.params)) hn (by decide) hdf ⟨rfl,by decide,by decide⟩ hY F (λ_ _ a ns hl _ hS=>⟨a,ns,rfl,hS,hl,λ_=>rfl⟩) λ_ _ _ _ _ z=>z
end K31x
set_option maxHeartbeats 0
open PySem PySem.W PyProof.Rows
theorem PySem.Challenge.cw_tellworld_k31_commands_told_holds : PySem.Challenge.rw_tellworld_k31_commands_told.Holds := by
 refine hd ?_
 k_fill
 refine K31x.walk (l:=PySem.Challenge.rw_tellworld_k31_commands_told) rfl rfl (λw h Y=>Y) ?F
 case F=>
  intro w mg fa h KX G hmg;refine' K31x.all_mk KX G hmg ?Q
  case Q=>
   constructor
   all_goals as_aux_lemma=>first
   |k_is
   |kernel_rfl
   |exact⟨⟨⟨by k_is,by k_is,by k_is,by k_is⟩,by k_is,by k_is,by k_is,by k_is⟩,by k_is,by k_is,by kernel_rfl⟩
   |exact⟨_,by k_is⟩
   |exact K31x.gd_mk (by k_is) (by k_is) (by k_is) (by k_is)
   |exact K31x.gm_mk (by k_is) (by k_is) (by k_is) (by k_is) (by k_is)
   |exact⟨_,_,_,_,by k_is,by k_is,by rfl,by rfl,by simp,by repeat' first|exact .nil|exact .cons rfl .nil|refine .cons rfl ?_⟩
   |exact⟨_,_,_,_,[_],_,by k_is,by k_is,⟨⟨_,_,_,_,_,_,_,_,_,rfl,by k_is,by k_is⟩,by k_is⟩,by k_is,by rfl,.cons (by first|rfl|exact⟨_,rfl⟩) .nil⟩
   |exact⟨_,_,_,_,[_,_,_],_,by k_is,by k_is,⟨⟨_,_,_,_,_,_,_,_,_,rfl,by k_is,by k_is⟩,by k_is⟩,by k_is,by rfl,.cons (by first|rfl|exact⟨_,rfl⟩) (.cons (by first|rfl|exact⟨_,rfl⟩) (.cons (by first|rfl|exact⟨_,rfl⟩) .nil))⟩
end
