import PyProof.Rows.All
import Open.Pieces
import OpenK.KLine
import PySem.Challenge.RW_tellworld_k22_tests_in_tests
import Wide.All
import OpenK.AllK
import Wide.FinOn
import PyProof.EqAt
import PyProof.EqKinds
import PyProof.TupleCall
import PyProof.StrWalks
import PyProof.ConsumeWalk
import PyProof.NeKinds
import PyProof.Rows.SetFrom
import KE.KIsAll
import PyProof.WalksMore
import PyProof.TupleKey
import PyProof.DictWalks
import PyProof.Rows.ZipGen
import KE.KDictLaws
import PyProof.DictItems
import KE.KSortTup
import PyProof.TupleOfSeq
import PyProof.Rows.SortStr
import PyProof.Rows.StrInSeq3
import PyProof.TupleIter
import KE.KDictOf
import PyProof.CollectWalk
import PyProof.Rows.SeqMore
set_option genSizeOf false
local macro_rules (kind:=Lean.Parser.Command.declaration)|s=>do
 if s.getPos?.isNone||s[1][1][0].getId.getRoot== `PySem then Lean.Macro.throwUnsupported
 let s:=s.rewriteBottomUp (·.setInfo .none)
 if s[1].getKind∈[``Lean.Parser.Command.definition,``Lean.Parser.Command.abbrev,``Lean.Parser.Command.instance]&&s[0][4].isNone then
  return s.setArg 0 (s[0].setArg 4 (Lean.mkNullNode #[Lean.Syntax.node .none ``Lean.Parser.Command.noncomputable #[Lean.mkAtom "noncomputable"]]))
 return s
noncomputable section
open List renaming length_map->ah,getElem?_eq_getElem->aP,length_append->aC,map_cons->az,length_cons->aH,mem_singleton->aR,length_singleton->bh,mem_cons_self->aY,mem_cons_of_mem->bo,mem_cons->aN,mem_map->aK,size_toArray->bp,map_append->bj,getElem?_map->bB,length_take->bw,getElem?_eq_some_iff->bW,mem_append_left->bK,append_assoc->bE,mem_append_right->bS,append_nil->bz,map_map->aZ,mem_append->bC,all_eq_true->bJ,getD_eq_getElem?_getD->cy,getElem?_append_right->cI,mem_filter->bO,nil_append->bP,not_mem_nil->bU,length_replicate->cp,getElem?_set->bX,getElem?_append_left->cW,nodup_append->cc,map_nil->bL,mem_map_of_mem->cA,mem_of_getElem?->cJ,length_drop->cg,range->bH,nodup_cons->cj,length->bY,mem_range->cB,getElem?_drop->de,zip_cons_cons->dB,length_nil->c6,getElem_mem->dh,zipWith_cons_cons->eU,length_filter_le->eV,getElem?_replicate->fL,filter_cons->dD,exists_cons_of_ne_nil->gu,lookup_cons->eA,find?_cons->eB,length_set->eC,countP_eq_length_filter->iC,zipWith->dj,lookup->c7,all_cons->dJ,replicate->eE,getElem?_eq_none->gE,drop_eq_getElem_cons->iG,length_zip->fm,any_cons->eF,any_eq_true->fQ,getElem?_cons_succ->iJ,getElem?_set_self->iK,map_take->fo,length_range->gV,mergeSort_perm->iN,map_drop->fV,take_sublist->iO,nodup_nil->gZ,filter_eq_nil_iff->jM,getElem?_zipWith->jP,take_append_drop->jQ,getElem?_set_ne->jR,mem_iff_getElem->jS,mem_of_mem_drop->jU,exists_mem_of_length_pos->l7,of_mem_zip->ja,filter_nil->jb,filterMap_cons->jV,length_zipWith->jW,getElem_of_mem->jX,filter_eq_self->jY,mem_filterMap->jZ,getElem?_zip_eq_some->mf,pairwise_iff_getElem->mj,getLastD_eq_getLast?->ml,idxOf_lt_length_iff->mr,zip_map'->jf,getElem_inj->j8,length_eq_zero_iff->mx,drop_eq_nil_of_le->mB,take_of_length_le->mC,contains_iff_mem->mH,countP_mono_left->mI,mem_of_mem_take->mN,mem_erase_of_ne->mO,getElem?_range->mQ,length_pos_iff->mS,contains_cons->mZ,getElem?_take->m8,filter_append->m9,filter_filter->ng,ext_getElem?->nh,any_eq_false->ni,map_fst_zip->nV,zip_append->nY,foldl_cons->nZ,idxOf_cons->oe,filter_map->oj,drop_zero->oJ,drop_nil->oV,all_map->o5,map_id->px,rec->pD,map->pF
open PySem.Heap renaming get?_push_of_some->aM,lt_size->aQ,get?_push_size->bF,size_push->dF,get?_update_other->gA,SameBut->fW,get?_update_self->jO
open PySem renaming wpAny_bind->aq,Value->ae,Shared->ag,wpAny_pure->aB,starEach->aA,wpAny->ai,mainGlobals->aX,sizeLine->aJ,compareOp->br,Program->aV,sizeLine_eq->bR,Around->aS,World->aL,wpAny_truthy_bool->c5,wpAny_mono->bZ,Spec->rU,wpAny_holding->cM,behindInMarks->cX,wpAny_Call_Name_kw->dZ,backTo->bD,codeAny_builtin->dE,FuncData->cb,sysModules->cN,assignEach->cP,bootBuiltins->di,attributeBase->dH,wpAny_passesOwn->fj,wpAny_newObj_type->fN,keywordEach->dq,mem_of_lookup->gG,codeAny->ck,tupleKind_room_in1->gH,letOwnedTupleGo->fR,binaryOp->cQ,wpAny_pyIter_list->gK,foldedSetIterable->gO,ofAClassStatement->gS,wpAny_setState_of->gU,carriedByValue->fT,swapsWith->dt,plainId_quiet->fU,codeAny_mono->fY,NameKind->dv,call_meetsIn->fZ,wpAny_call_entry->iU,wpAny_forIn_list->iW,wpAny_execs_nil->iY,wpAny_Call_method->j7,Paired->fA,wpAny_typeOf->jg,Keyword->eJ,call_meets->hJ,Builtin->eK,Scope->cR,wpAny_specialOf->ka,wpAny_updateSeq->kg,wpAny_loadPart'->mE,wpAny_isTrue_Compare1->mF,wpAny_eqIsQuiet_tuple->mG,isSubtype_type->kl,codeAny_call_builtin->mL,wpAny_newList->kA,wpAny_pyIter_tuple->mW,wpAny_call->jk,IsPart->eL,wpAny_pyHash_tuple->m6,Within->kD,GenState->hU,BindsTo->f9,slot_list_getitem->nu,wpAny_pyIter_dict->nE,wpAny_execs_cons->nJ,PassesOwn->jn,noFill_tuple_add->nM,wpAny_pyIter_zip->nU,wpAny_field->kO,seqIndex_of->kP,codeAny_of_tree->n4,wpAny_Name->kW,wpAny_Compare1->oo,Result->gb,PlainAttrs->kY,call->kZ,wpAny_seqItems->oA,wpAny_runValue->oB,boot_len->oF,intBits_le_64->oM,seq_tuple_add->oN,evalPart_none->oO,call_list_seq->oQ,wpAny_standAt->oT,SetTable->lq
open Nat renaming le_refl->aI,le_of_ble_eq_true->bT,ne_of_lt->bb,lt_of_lt_of_le->cf,le_trans->bQ,lt_succ_of_lt->df,zero_le->cu,lt_succ_self->eh,min_eq_left->eD,lt_of_succ_lt_succ->gB,lt_irrefl->dG,min_self->eG,ble_eq->dr,le_of_lt->fq,le_add_right->gW,le_succ->fw,ne_of_gt->fX,ble->dw,lt_of_le_of_lt->j4,sub_self->jh,add_right_comm->mT,le_of_eq->kE,lt_trichotomy->nG,le_of_not_lt->nP,not_lt_zero->oi,beq->hX,pow_succ->oZ,sub_zero->o7,mod_lt->pB
open Bool renaming false_ne_true->bA,and_eq_true->bq,eq_iff_iff->cK,false_eq_true->eY,not_eq_true'->fO,eq_false_iff->iR,or_eq_false_iff->jT,or_eq_true->kc,and_comm->kC,and_false->ox,or_false->oP,false_or->oR,rec->lp
open Prod renaming fst->aG,snd->jr,ext->pE
open PySem.W renaming Frag->ay,kia_one->cD,emptyDict->dm,findIn->cE,kitOne->cY,instObj->dM,keepIn->du,fnOf->dO,codeIn->f6,OpenLaw->f7,plainGet_of->kr,callWith_K0->ku,plainGet->jj,callWith_K->kH,cellsFrom_some->nL,methodObj->kK,hasDictIn->kL,kitx_list->kM,kitx_dict->kN,methodCall_KW->nX,lookIn->jo,looks_findIn->oq,kas_sort->jq,makes_of->lb,takerIn->lg,makesIn->lh,kitx_tuple->oY,nsIn->ic,mg_of->jt,plainOver->o9,make_core->pb,specialIn->pd,kat_cons->lr,isFn->ju
open Int renaming eq_ofNat_of_zero_le->cz,toNat_natCast->iP,emod_lt_of_pos->j6,emod_nonneg->kj,le_refl->pj
open Option.some renaming inj->cq,injEq->rN
open PyProof.Rows.F renaming plain_set_update_loop->dX,entry_set_update_loop->gx
open PySem.SetTable.probe renaming go->dg
open PySem.Around renaming under_plainId->dY,in1_units->iX,under->kF
open Array renaming length_toList->eW,getElem?_toList->jN,perm_iff_toList_perm->me,forIn_toList->m5,toList->oX,map->pC
open PySem.Calls renaming spliced_cons->eX,callWith_builtin->gz,spliced_nil->gQ,evalArgs_plain->iM,Name_function_global->ma,call_function_entry->mh
open PySem.Builtin.List renaming listTooLong->gv,listExtendWith->l8,listLengthHint->l9,listSameRef->mw
open PyProof.Rows renaming StrsAre->fM,slot_tuple_getitem->iE,AllBare->dN,subscriptTail_builtinR->my,listUpdate_at->kz,IsTup->dP,seqEpoch_at->kR,boot_sorted->kU,get?_update_seq->n9,entry_list_sort->oa,boot_isinstance->og,IntsAre->hZ,slicePart_none->ou,Subscript_->kX,slot_list_sort->oH,args_list_sort->oI,lt_str->rH
open PySem.SetTable renaming insertAt->eZ,below->gY,has->hE,Probe->jc,fresh->jd,bits->je,runEnd->kh,fill->kx,put->kI,gaveWay->nR,tooFull->nS,slot->oU
open List.Sublist renaming refl->fg,map->rR
open False renaming elim->cO
open PySem.Builtin.Slice renaming slicePlaces->iF,sliceAdjust->jL,sliceApplied->md,slicePartIndex->qb,sliceFields->qt
open Classical renaming byContradiction->iH,choose_spec->mJ
open Option renaming map_some->fi,isSome_map->ny,getD_none->nO,getD_some->nQ
open PySem.F renaming plainAttrs_list->fP,called_set->eI,slot_dict_get->fS,plainAttrs_dict->iQ,entry_dict_get->iV,slot_dict_itemiterator_iter->l6,slot_list_append->j2,slot_list_extend->j3,slot_dict_setdefault->mD,slot_list_pop->j9,args_list_extend_2->mK,sub_list_frozenset->mM,entry_list_extend->mP,args_tuple_add_2->mX,type_list_append->m7,entry_tuple_add->nt,args_dict_get_2->nz,args_dict_get_3->nD,slot_dict_items->nF,slot_list_index->nH,plain_list_iadd->nI,slot_tuple_add->nN,type_dict_get->nW,plain_set_new->n8,type_list_pop->oh,sub_list_set->oE
open PySem.Builtin.Tuple renaming tupleExact->iI,tupleCompareSizes->qa,tupleItemsOf->qd
open PySem.Obj renaming mapSeq->c8,putSet->la
open PySem.SetTable.below renaming go->gR
open PySem.SeqAt.EqAt renaming same->gX,of_refs->j5,int_str->mU,str_int->mV,str_str->mY,tuple_none->qL,tuple_bool->qM,tuple_list->qN,list_tuple->qO,none_tuple->qP,bool_tuple->qQ,none_bool->qR,bool_none->qS,bool_bool->qT,tuple_int->qU,tuple_str->qV,list_none->qW,list_bool->qX,none_list->qY,bool_list->qZ,int_tuple->q9,str_tuple->rb,none_int->rf,none_str->rg,bool_int->rh,bool_str->rj,int_none->rl,int_bool->ro,str_none->rq,str_bool->rA,list_int->rB,list_str->rD,int_list->rE,str_list->rF,int_int->rK
open Ne renaming symm->c9
open Nat.succ renaming inj->hG
open LawfulBEq renaming eq_of_beq->fz
open PySem.AutoSeq1 renaming sub_tuple_tuple->mm,wpAny_loadPart'->mq
open Sum.inr renaming inj->ji
open List.Perm renaming refl->km
open PySem.Heap.SameBut renaming update->mR
open PySem.Paired renaming length->ko,snoc->pf
open PySem.Shared renaming TypeIs->ky
open List.cons renaming inj->kB
open PySem.SeqAt renaming EqAt->jl,list_indexAt->qJ
open PySem.Walks renaming list->jm,dictKeys->oG
open PySem.Code renaming isFrame->kG,frames->pe
open Prod.mk renaming inj->kJ
open PySem.Moved renaming trans->kQ
open PySem.Builtin.Frozenset renaming updateFrom->qc,newClass->qf
open PySem.PassesOwn renaming never->om
open PySem.Txt renaming mul->ib
open PySem.SeqAt.RcNeAt renaming lists_lengths->qe,tuples->rG,lists->rL
open PySem.EqNone renaming eq_none_none->qg,eq_none_bool->qh,eq_bool_none->qj,ne_none_none->qm,ne_none_bool->qo,ne_bool_none->qp,eq_none_int->qu,eq_none_str->qv,eq_int_none->qw,eq_str_none->qA,ne_none_int->qC,ne_none_str->qD,ne_int_none->qE,ne_str_none->qG
open PySem.EqMixed renaming eq_bool_str->qk,eq_str_bool->ql,ne_bool_str->qq,ne_str_bool->qr,eq_int_str->qz,eq_str_int->qB,ne_int_str->qF,ne_str_int->qH
open PySem.Value renaming isStrOf->oK,isInt->o8
open PySem.SeqAt.RcAt renaming lists_lengths->qI,tuples->rO,lists->rQ
open PySem.Pv renaming boot_tuple->oW,boot_list->o6,boot_int->ph
open PySem.Builtin.Range renaming rangeSize->qK
open PyProof.Rows.IsTup renaming new->lj
open PySem.Heap.IsSliceOf renaming new->rJ
open PySem.Str renaming length->pz
open PySem.W.WShape renaming has->pA
open PySem.Within renaming cons->rM
open List.Pairwise renaming map->rP
open PySem.Heap.DictOf renaming new->rS
open PySem.W.Looks renaming ld->pG
def aO:=@decide_eq_false
def aj:=@if_pos
def ao:=@if_neg
def bu:=@of_decide_eq_true
def ba:=@decide_eq_true
def au:=@absurd
def bG:=@decide_eq_true_eq
def aU:=@congrArg
abbrev cH:=List (PySem.Addr×PySem.Obj)
abbrev aF:=List PySem.Str
set_option compiler.extract_closed false
set_option hygiene false
local macro_rules
|`(tactic|sleep 1)=>`(tactic|(
 unfold sj at rs;obtain⟨v,r0,rfl,rv,rn⟩:=rs;unfold sj at rn;subst rn))
|`(tactic|sleep 2)=>`(tactic|(
 cases e;refine⟨F,ρ,H0,_,_,R,e1,λv H1 H1' s R' r=>?_⟩;unfold Rep at r))
|`(tactic|sleep 3)=>`(tactic|(
 unfold Rep at hy;obtain⟨b,ys,rfl,hq',hr'⟩:=hy;cases rv))
|`(tactic|sleep 4)=>`(tactic|(
 intro X hP hw hK hc i pins s σ H E I hf st hg;subst hP hw hK))
|`(tactic|sleep 5)=>`(tactic|(obtain⟨F,ρ,H0,d,ρ',R,e,k⟩:=hh))
set_option Elab.async false
set_option linter.all false
namespace L5
open PySem PySem.W
noncomputable def pick(l:List Obj):Nat->List Addr->List Obj:=
 @pD Obj (λ_=>Nat->List Addr->List Obj) (λ_ _=>[])
  (λo _ ih i as=>@pD Addr (λ_=>List Obj) [] (λa r _=>@lp (λ_=>List Obj) (ih (Nat.succ i) as) (o::ih (Nat.succ i) r) (hX a i)) as) l
theorem Ot(i:Nat)(as:List Addr):pick [] i as=[]:=rfl
theorem Rr(o:Obj)(l:List Obj)(i:Nat)(r:List Addr):pick (o::l) i (i::r)=o::pick l (i+1) r:=by show @lp (λ_=>List Obj) _ _ (hX i i)=_;rw[Nat.beq_refl];rfl
theorem Rt(o:Obj)(l:List Obj)(i a:Nat)(r:List Addr)(h:a≠i):pick (o::l) i (a::r)=pick l (i+1) (a::r):=by
 show @lp (λ_=>List Obj) _ _ (hX a i)=_;have:hX a i=false:=by
  cases q:hX a i with
  |false=>rfl
  |true=>exact au (Nat.eq_of_beq_eq_true q) h
 rw[this];rfl
theorem HW:∀(l:List Obj) (i:Nat) (as:List Addr),(pick l i as).length=as.length->∀j (hj:j<as.length),∃b,as[j]=i+b/\l[b]?=(pick l i as)[j]?
 |[],i,as,h,j,hj=>by rw[Ot]at h;simp at h;omega
 |o::l,i,[],h,j,hj=>by simp at hj
 |o::l,i,a::r,h,j,hj=>by
  by_cases q:a=i
  ·subst q;rw[Rr]at h ⊢;cases j with
   |zero=>exact⟨0,rfl,rfl⟩
   |succ j=>obtain⟨b,e1,e2⟩:=HW l (a+1) r (by simpa using h) j (by simpa using hj);exact⟨b+1,by rw[List.getElem_cons_succ,e1];exact mT a 1 b,by simpa using e2⟩
  ·rw[Rt _ _ _ _ _ q]at h ⊢;obtain⟨b,e1,e2⟩:=HW l (i+1) (a::r) h j hj;exact⟨b+1,by rw[e1];exact mT i 1 b,by simpa using e2⟩
def live(o:Obj):Bool:=match o with|⟨_,_,.freed,_⟩=>false|_=>true
theorem Ru{h:Heap}{as:List Addr}{K:Frag}(e:as=K.map (·.1))(x:(pick h.objs.toList 0 as,K.all λp=>live p.2)=(K.map (·.2),true)):K.In h:=by
 obtain⟨x1,x2⟩:=kJ x;refine Frag.in_of e (nh λj=>?_);rw[bB,bB];by_cases hj:j<as.length
 ·have hl:(pick h.objs.toList 0 as).length=as.length:=by rw[x1,e,ah,ah]
  obtain⟨b,e1,e2⟩:=HW _ _ _ hl j hj;have hk:j<K.length:=by rw[e,ah]at hj;exact hj
  rw[aP hj,aP hk,fi,fi,e1,Nat.zero_add];have e3:h.objs[b]?=some (K[j].2):=by rw[<-jN,e2,x1,bB,aP hk];rfl
  have lv:live K[j].2=true:=bJ.mp x2 _ (dh hk);refine aU some ?_;unfold Heap.get?;rw[e3];revert lv;cases K[j].2 with
  |mk c d data sl=>cases data<;>intro lv<;>first|rfl|cases lv
 ·rw[gE (by omega),gE (by rw[e,ah]at hj;omega)];rfl
noncomputable def YV(K:Params->Frag) (as:List Addr) (e:∀P,as=(K P).map (·.1)):Hook:=
 ⟨List Obj×Bool,λs=>(pick s.heap.objs.toList 0 as,true),λw=>((K w.params).map (·.2),(K w.params).all λp=>live p.2),InK K,λw s x=>Ru (e w.params) (by
  obtain⟨x1,x2⟩:=kJ x;rw[x1,<- x2]),InK.keeps⟩
end L5
section
open PySem PySem.W PyProof.Rows
local macro_rules|`(tactic|o_head ($f:ident $k $as $e))=>`(tactic|o_head ((L5.YV $k $as (fun _=>by kernel_rfl)):W.Hook))
local macro_rules|`(command|#where)=>do
 let mut r:=#[]
 for n in [43:1663] do
  let x:=Lean.mkIdent (.mkSimple s!"tw{((Lean.Name.mkSimple "hd").str s!"o_{n}").hash}")
  r:=r.push ((<-`(command|noncomputable def $x:ident:=0)).raw.rewriteBottomUp (·.setInfo .none))
 return Lean.mkNullNode r
noncomputable section
namespace PySem.W.Fast
def tw7046642507240672030:=0
def tw16998767113842130368:=0
def tw1484588488312774368:=0
def tw11233446548474340610:=0
def tw4905194841988867268:=0
def tw1090689591775485030:=0
def tw16288130148447953894:=0
def tw12210958215875933223:=0
def tw3542984721355170951:=0
def tw4928333261110095687:=0
def tw11521511281804667912:=0
def tw10374632558016547081:=0
def tw229164427083005643:=0
def tw938635154573522699:=0
def tw10557351479930030444:=0
def tw7774113678449685934:=0
def tw13587151598080963022:=0
def tw17537027142021205455:=0
def tw11163739012320327313:=0
def tw17312523289201507379:=0
def tw861502493610598483:=0
def tw7155359931933253843:=0
def tw6344153461787385748:=0
def tw9300808954929066293:=0
def tw14308600377511790581:=0
def tw6311449247597041334:=0
def tw5169156616507760408:=0
def tw6845741732454156280:=0
def tw7422128600509559289:=0
def tw1735395003836382009:=0
def tw16280658162054754363:=0
def tw4435421394204515611:=0
def tw4142209100229140859:=0
def tw5232775305885696284:=0
def tw15219572437756969500:=0
def tw15234264132796209951:=0
def tw13865323600775035743:=0
def tw18096739253777763795:=0
def tw10473089199940464468:=0
def tw5794000817047500649:=0
def tw14347835829400615940:=0
def tw9094225154769264635:=0
def tw1073704658516941901:=0
def tw2233547320038402401:=0
def tw15892216977243462883:=0
def tw8997383693586321770:=0
def tw6784737039638806343:=0
def tw4022129113586101826:=0
def tw10833825939047706337:=0
def tw8300666452175358407:=0
def tw16629204123399850450:=0
#where
end PySem.W.Fast
end
def zvp:=PySem.Challenge.pw_tellworld_k22_tests_in_tests
noncomputable def zvq:=PySem.W.view zvp [164]
local macro_rules|`(tactic|refine $t)=>do
 if t.raw[0].getId != ``PySem.W.holds_open||t.raw[1][0][3].getId.eraseMacroScopes== `zvq then Lean.Macro.throwUnsupported
 let n:=fun (i:Nat) (x:Lean.Term) (a:Array Lean.Syntax)=>a.set! i (a[i]!.setArg 3 x)
 `(tactic|refine $(Lean.TSyntax.mk (t.raw.setArg 1 (Lean.mkNullNode (n 0 (<-`(zvq)) (n 1 (<-`(zvp.boundNames)) (n 2 (<-`(fun s=>PySem.W.xlAt zvq [] s&&PySem.W.recOk [] s)) (n 3 (<-`(PySem.W.XL zvq [])) t.raw[1].getArgs))))))))
set_option maxRecDepth 100000 in
set_option maxHeartbeats 0 in
open_top hd for PySem.Challenge.rw_tellworld_k22_tests_in_tests
end
set_option maxRecDepth 100000
namespace L2
open PySem PySem.Spec PyProof.Rows
abbrev Key:=Sum Int Str
def GL:Key->ae->Bool
 |.inl k,v=>o8 k v
 |.inr x,v=>oK x v
def keyH(w:aL):Key->Int
 |.inl k=>hashInt k
 |.inr x=>hashStr w x
theorem ub:∀{k:Key} {v:ae},GL k v=true->(∃i t,k=Sum.inl i/\v=Value.int i t)\/(∃x t,k=Sum.inr x/\v=Value.str x t)
 |.inl i,v,h=>by obtain⟨t,e⟩:=Value.isInt_shape (k:=i) (v:=v) h;exact .inl ⟨i,t,rfl,e⟩
 |.inr x,v,h=>by obtain⟨t,e⟩:=Value.isStrOf_shape (x:=x) (v:=v) h;exact .inr ⟨x,t,rfl,e⟩
theorem M9(i:Int)(t:Tok):GL (.inl i) (.int i t)=true:=by simp[GL,o8]
theorem Na(x:Str)(t:Tok):GL (.inr x) (.str x t)=true:=by simp[GL,oK]
theorem UX(a b:Int):decide ((Sum.inl a:Key)=Sum.inl b)=(a==b):=by
 by_cases e:a=b
 ·subst e;simp
 ·have h:¬(Sum.inl a:Key)=Sum.inl b:=λq=>e (Sum.inl.inj q);rw[aO h];exact(beq_eq_false_iff_ne.mpr e).symm
theorem UY(a b:Str):decide ((Sum.inr a:Key)=Sum.inr b)=decide (a=b):=by
 by_cases e:a=b
 ·subst e;simp
 ·have h:¬(Sum.inr a:Key)=Sum.inr b:=λq=>e (ji q);rw[aO h,aO e]
theorem UZ(a:Int)(b:Str):decide ((Sum.inl a:Key)=Sum.inr b)=false:=aO (λq=>nomatch q)
theorem U0(a:Str)(b:Int):decide ((Sum.inr a:Key)=Sum.inl b)=false:=aO (λq=>nomatch q)
def sQ(prog:aV)(w:aL):PySem.KeyKind prog w Key where
 is:=GL
 hash:=keyH w
 inj:=λv a b ha hb=>by
  rcases ub ha with ⟨i,t,rfl,rfl⟩|⟨x,t,rfl,rfl⟩
  ·rcases ub hb with ⟨j,u,rfl,e⟩|⟨y,u,rfl,e⟩
   ·injection e with e1 _;rw[e1]
   ·exact nomatch e
  ·rcases ub hb with ⟨j,u,rfl,e⟩|⟨y,u,rfl,e⟩
   ·exact nomatch e
   ·injection e with e1 _;rw[e1]
 byValue:=λk v h=>by rcases ub h with ⟨i,t,rfl,rfl⟩|⟨x,t,rfl,rfl⟩<;>rfl
 pyHash:=λhv h=>by
  rcases ub hv with ⟨i,t,rfl,rfl⟩|⟨x,t,rfl,rfl⟩
  ·exact wpAny_pyHash_int h
  ·exact wpAny_pyHash_str h
 eqBool:=λhu hv h=>by
  rcases ub hu with ⟨i,t,rfl,rfl⟩|⟨x,t,rfl,rfl⟩
  ·rcases ub hv with ⟨j,u,rfl,rfl⟩|⟨y,u,rfl,rfl⟩
   ·rw[UX]at h;exact wpAny_eqBool_int h
   ·rw[UZ]at h;exact mU i t y u _ _ _ _ h
  ·rcases ub hv with ⟨j,u,rfl,rfl⟩|⟨y,u,rfl,rfl⟩
   ·rw[U0]at h;exact mV x t j u _ _ _ _ h
   ·rw[UY]at h;exact wpAny_eqBool_str h
 «strs»:=λk x t v h=>by
  rcases ub h with ⟨i,u,rfl,e⟩|⟨y,u,rfl,e⟩
  ·exact nomatch e
  ·injection e with e1 _;subst e1;cases v<;>rfl
theorem Jh(prog:aV)(w:aL)(i:Int)(t:Tok):(sQ prog w).is (.inl i) (.int i t)=true:=M9 i t
theorem Ji(prog:aV)(w:aL)(x:Str)(t:Tok):(sQ prog w).is (.inr x) (.str x t)=true:=Na x t
inductive V where
 |non|bl (b:Bool)|int (i:Int)|str (x:Str)|byt (b:Array UInt8)|flt (b:UInt64)|ref (a:Addr)|ty (n:String)
 deriving DecidableEq
abbrev bI:=List V
def RelV:V->ae->Prop
 |.non,u=>u=Value.none
 |.bl b,u=>u=Value.bool b
 |.int i,u=>∃t,u=Value.int i t
 |.str x,u=>∃t,u=Value.str x t
 |.byt b,u=>∃t,u=Value.bytes b t
 |.flt b,u=>∃t,u=Value.float b t
 |.ref a,u=>u=Value.ref a
 |.ty n,u=>u=Value.type n
abbrev Vals:bI->List ae->Prop:=fA RelV
theorem Vals.length(r:Vals xs us):xs.length=us.length:=ko r
theorem Vals.get:∀{xs:bI} {us:List ae} {i:Nat} {x:V},Vals xs us->xs[i]?=some x->∃u,us[i]?=some u/\RelV x u
 |_,_,_,_,.nil,e=>by simp at e
 |_,_,0,_,.cons r _,e=>by simp at e;subst e;exact⟨_,rfl,r⟩
 |_,_,i+1,x,.cons _ t,e=>by obtain⟨u,h1,h2⟩:=Vals.get (i:=i) (x:=x) t (by simpa using e);exact⟨u,by simpa using h1,h2⟩
theorem Vals.set(r:RelV x u):∀{xs:bI} {us:List ae} (i:Nat),Vals xs us->Vals (xs.set i x) (us.set i u)
 |_,_,_,.nil=>.nil
 |_,_,0,.cons _ t=>.cons r t
 |_,_,i+1,.cons q t=>.cons q (Vals.set r i t)
theorem Vals.append:∀{xs ys:bI} {us ws:List ae},Vals xs us->Vals ys ws->Vals (xs++ys) (us++ws)
 |_,_,_,_,.nil,s=>s
 |_,_,_,_,.cons r t,s=>.cons r (Vals.append t s)
theorem Vals.take:∀{xs:bI} {us:List ae} (n:Nat),Vals xs us->Vals (xs.take n) (us.take n)
 |_,_,0,_=>.nil
 |_,_,_+1,.nil=>.nil
 |_,_,n+1,.cons r t=>.cons r (Vals.take n t)
theorem Vals.drop:∀{xs:bI} {us:List ae} (n:Nat),Vals xs us->Vals (xs.drop n) (us.drop n)
 |_,_,0,r=>r
 |_,_,_+1,.nil=>.nil
 |_,_,n+1,.cons _ t=>Vals.drop n t
def Ai:Option V->Option ae->Prop
 |some v,some u=>RelV v u
 |none,none=>True
 |_,_=>False
def KV{κ:Type}:List (κ×V)->List (κ×ae)->Prop:=fA λ(p:κ×V) (q:κ×ae)=>p.1=q.1/\RelV p.2 q.2
def kV:Key->V
 |.inl i=>.int i
 |.inr x=>.str x
inductive HO where
 |lst (xs:bI)
 |tup (xs:bI)
 |dK (kvs:List (Key×V))|dT (kvs:List (List Key×V))
 |set (S:Int->Bool) (n:Nat)
 |ins (C dx:Addr) (fs:List (Str×V))
 |own (x:Addr)
 |xd (fs:List (Str×V))
 |met (f x:Addr)
 |rng (lo hi:Int)
 |frz (o:Obj) (u:HO)
 |tbl (ps:Array ae)
 |ext (φ:Heap->Prop)
abbrev Hp:=Addr->Option HO
def upd(H:Hp)(a:Addr)(o:HO):Hp:=λb=>if b=a then some o else H b
theorem sr:upd H a o a=some o:=by unfold upd;rw[aj rfl]
theorem su(h:b≠a):upd H a o b=H b:=by unfold upd;rw[ao h]
theorem YW{H:Hp}{a b:Addr}{o u:HO}(h:H a=some o)(h':H b=some u)(d:o≠u):a≠b:=by intro e;subst e;rw[h]at h';exact d (cq h')
theorem vw{H:Hp}{a b:Addr}{o:HO}(h:H a=some o)(h':H b=none):a≠b:=by intro e;subst e;rw[h]at h';cases h'
section
variable(P:aV)(w:aL)
def tY(H:Hp)(h:Heap)(a:Addr):HO->Prop
 |.lst xs=>xs.length<=aJ/\∃(its:List ae) (n:Nat),Vals xs its/\h.get? a=some { cls:=.type "list", data:=.seq its.toArray n }
 |.tup xs=>xs.length<=aJ/\∃its:List ae,Vals xs its/\dP h a its.toArray
 |.dK kvs=>kvs.length<=aJ/\(a==cN)=false/\∃vs,KV kvs vs/\h.DictOf (sQ P w) a vs
 |.dT kvs=>kvs.length<=aJ/\(a==cN)=false/\∃xs:List (List Key×Addr×ae),
   fA (λ(p:List Key×V) (q:List Key×Addr×ae)=>p.1=q.1/\H q.2.1=some (.tup (p.1.map kV))/\RelV p.2 q.2.2) kvs xs/\
   ∃o es ep,h.get? a=some o/\o.ExactDict/\o.data=.dict es ep/\es.toList=xs.map (entryOfKey (tupleKind (sQ P w)))/\(xs.map (·.1)).Nodup
 |.set S n=>h.SetOf (intKind P w) a S n
 |.ins C dx fs=>H dx=some (.own a)/\fs.length<=1000/\dx≠a/\h.get? a=some (dM C dx)/\
   ∃mA,h.Ns1 dx mA/\(∀f,Ai (fs.lookup f) (mA f))/\kD mA (fs.map (·.1))
 |.own _=>∃o,h.get? a=some o
 |.xd fs=>∃mA,h.Ns1 a mA/\∀f,Ai (fs.lookup f) (mA f)
 |.rng lo hi=>∃t u v,h.get? a=some { cls:=.type "range", data:=.fields #[.int lo t,.int hi u,.int 1 v] }
 |.frz o u=>h.get? a=some o/\tY H h a u
 |.tbl ps=>h.get? a=some { cls:=.none,data:=.fields ps }
 |.met f x=>h.get? a=some (kK (.ref f) (.ref x))
 |.ext φ=>φ h/\(∃o,h.get? a=some o)/\∀h1 h2:Heap,φ h1->(∀o,h1.get? a=some o->h2.get? a=some o)->φ h2
def HOk(H:Hp)(h:Heap):Prop:=∀a o,H a=some o->tY P w H h a o
end
section
variable{P:aV}{w:aL}{H H':Hp}{h h':Heap}{a:Addr}{o:HO}
theorem tY.lt(x:tY P w H h a o):a<h.objs.size:=by
 cases o with
 |lst xs=>obtain⟨_,_,_,_,e⟩:=x;exact aQ e
 |tup xs=>obtain⟨_,_,_,p⟩:=x;exact p.lt
 |dK kvs=>obtain⟨_,_,_,_,o,_,_,e,_⟩:=x;exact aQ e
 |dT kvs=>obtain⟨_,_,_,_,o,_,_,e,_⟩:=x;exact aQ e
 |set S n=>obtain⟨o,_,_,_,e,_⟩:=x;exact aQ e
 |ins C dx fs=>obtain⟨_,_,_,e,_⟩:=x;exact aQ e
 |own y=>obtain⟨_,e⟩:=x;exact aQ e
 |xd fs=>obtain⟨_,⟨_,_,_,e,_⟩,_⟩:=x;exact aQ e
 |rng lo hi=>obtain⟨_,_,_,e⟩:=x;exact aQ e
 |frz ob u=>obtain⟨e,_⟩:=x;exact aQ e
 |tbl ps=>exact aQ (show h.get? a=some _ from x)
 |met f y=>exact aQ (show h.get? a=some _ from x)
 |ext φ=>obtain⟨_,⟨_,e⟩,_⟩:=x;exact aQ e
theorem Paired.mapP{α β:Type}{F G:α->β->Prop}:∀{l₁:List α} {l₂:List β},fA F l₁ l₂->(∀a b,F a b->G a b)->fA G l₁ l₂
 |_,_,.nil,_=>.nil
 |_,_,.cons r t,f=>.cons (f _ _ r) (Paired.mapP t f)
theorem tY.stay(x:tY P w H h a o)(k:∀b u,(b=a\/H b=some (.own a))->h.get? b=some u->h'.get? b=some u)
  (ho:∀b,H b=some (.own a)->H' b=some (.own a)) (ht:∀b xs,H b=some (.tup xs)->H' b=some (.tup xs)):tY P w H' h' a o:=by
 induction o with
 |lst xs=>obtain⟨z,its,n,r,e⟩:=x;exact⟨z,its,n,r,k _ _ (.inl rfl) e⟩
 |tup xs=>obtain⟨z,its,r,ob,e,c⟩:=x;exact⟨z,its,r,ob,k _ _ (.inl rfl) e,c⟩
 |dK kvs=>obtain⟨z,y,vs,r,ob,es,ep,e,c⟩:=x;exact⟨z,y,vs,r,ob,es,ep,k _ _ (.inl rfl) e,c⟩
 |dT kvs=>obtain⟨z,y,xs,r,ob,es,ep,e,c⟩:=x;exact⟨z,y,xs,Paired.mapP r λp q z=>⟨z.1,ht _ _ z.2.1,z.2.2⟩,ob,es,ep,k _ _ (.inl rfl) e,c⟩
 |set S n=>obtain⟨ob,es,ep,t,e,c⟩:=x;exact⟨ob,es,ep,t,k _ _ (.inl rfl) e,c⟩
 |ins C dx fs=>obtain⟨d,z,ne,e,mA,⟨od,es,ep,e2,c⟩,r⟩:=x;exact⟨ho _ d,z,ne,k _ _ (.inl rfl) e,mA,⟨od,es,ep,k _ _ (.inr d) e2,c⟩,r⟩
 |own y=>obtain⟨ob,e⟩:=x;exact⟨ob,k _ _ (.inl rfl) e⟩
 |xd fs=>obtain⟨mA,⟨od,es,ep,e,c⟩,r⟩:=x;exact⟨mA,⟨od,es,ep,k _ _ (.inl rfl) e,c⟩,r⟩
 |rng lo hi=>obtain⟨t,u,v,e⟩:=x;exact⟨t,u,v,k _ _ (.inl rfl) e⟩
 |frz ob u ih=>obtain⟨e,q⟩:=x;exact⟨k _ _ (.inl rfl) e,ih q⟩
 |tbl ps=>have e:h.get? a=some { cls:=.none,data:=.fields ps }:=x;show h'.get? a=some { cls:=.none,data:=.fields ps };exact k a _ (.inl rfl) e
 |met f y=>have e:h.get? a=some (kK (.ref f) (.ref y)):=x;show h'.get? a=some (kK (.ref f) (.ref y));exact k a _ (.inl rfl) e
 |ext φ=>obtain⟨p,⟨o,e⟩,st⟩:=x;exact⟨st _ _ p λo q=>k _ _ (.inl rfl) q,⟨o,k _ _ (.inl rfl) e⟩,st⟩
theorem HOk.lt(x:HOk P w H h)(e:H a=some o):a<h.objs.size:=(x a o e).lt
theorem HOk.fresh(x:HOk P w H h)(e:h.objs.size<=a):H a=none:=by
 cases q:H a with
 |none=>rfl
 |some u=>exact au (cf (x.lt q) e) (dG _)
theorem HOk.kept(x:HOk P w H h)(k:∀b u,h.get? b=some u->h'.get? b=some u):HOk P w H h':=λa o e=>
 (x a o e).stay (λb u _ q=>k b u q) (λ_ q=>q) λ_ _ q=>q
theorem HOk.laid(x:HOk P w H h)(k:∀b u,h.get? b=some u->h'.get? b=some u)(hp:h.objs.size<=a)(new:tY P w (upd H a o) h' a o):HOk P w (upd H a o) h':=λb u e=>by
 have hn:=x.fresh hp;by_cases hb:b=a
 ·subst hb;rw[sr]at e;cases e;exact new
 ·rw[su hb]at e;exact(x b u e).stay (λc v _ q=>k c v q) (λc q=>by rw[su (vw q hn)];exact q) λc xs q=>by rw[su (vw q hn)];exact q
end
def Rd(H:Hp)(a:Addr)(u:HO):Prop:=H a=some u\/∃o,H a=some (.frz o u)
theorem Rd.ok(r:Rd H a u)(x:HOk P w H h):tY P w H h a u:=by
 rcases r with r|⟨o,r⟩
 ·exact x a u r
 ·obtain⟨_,q⟩:=x a _ r;exact q
def Mut:Option HO->Prop
 |some (.lst _)=>True
 |some (.dK _)=>True
 |some (.dT _)=>True
 |some (.set _ _)=>True
 |some (.ins _ _ _)=>True
 |some (.ext _)=>True
 |_=>False
section
variable{P:aV}{w:aL}{H:Hp}{h h':Heap}{x e:Addr}{o':HO}
theorem HOk.write(ok:HOk P w H h)(mu:Mut (H x))(he:e=x\/H e=some (.own x))(k:∀b u,b≠e->h.get? b=some u->h'.get? b=some u)(heo:∃u,h'.get? e=some u)
  (new:tY P w (upd H x o') h' x o'):HOk P w (upd H x o') h':=λb u q=>by
 have nown:∀c y,H c=some (.own y)->c≠x:=λc y r z=>by subst z;rw[r]at mu;exact mu
 have ntup:∀c xs,H c=some (.tup xs)->c≠x:=λc xs r z=>by subst z;rw[r]at mu;exact mu
 by_cases hb:b=x
 ·subst hb;rw[sr]at q;cases q;exact new
 ·rw[su hb]at q;by_cases hbe:b=e
  ·have q':H b=some (.own x):=by
    rcases he with z|z
    ·exact au (hbe.trans z) hb
    ·rw[hbe];exact z
   rw[q]at q';cases q';obtain⟨v,hv⟩:=heo;exact⟨v,by rw[hbe];exact hv⟩
  ·refine(ok b u q).stay (λc v hc r=>k c v ?_ r) (λc r=>by rw[su (nown c b r)];exact r) λc xs r=>by rw[su (ntup c xs r)];exact r
   rcases hc with rfl|hc
   ·exact hbe
   ·rintro rfl;rcases he with z|z
    ·exact nown c b hc z
    ·rw[hc]at z;cases z;exact hb rfl
end
structure Un(fs ex:List Addr)(H H':Hp)(h h':Heap):Prop where
 keep:∀b o,h.get? b=some o->H b=none->b∉fs->b∉ex->h'.get? b=some o
 slot:∀b o,h.get? b=some o->H b=none->b∈fs->b∉ex->∃sl,h'.get? b=some { o with slots:=sl }
 free:∀b o,h.get? b=some o->H b=none->b∉ex->H' b=none
 there:∀b o,h.get? b=some o->b∉ex->∃o',h'.get? b=some o'
 tups:∀b xs,H b=some (.tup xs)->H' b=some (.tup xs)
 frzs:∀b o u,H b=some (.frz o u)->H' b=some (.frz o u)
 tbls:∀b ps,H b=some (.tbl ps)->∃more,H' b=some (.tbl (ps++more))
section
variable{fs fs' ex ex':List Addr}{H H1 H2:Hp}{h h1 h2 h':Heap}{a x e:Addr}{o:HO}
theorem Un.any(u:Un fs ex H H1 h h1)(q:h.get? b=some ob)(n:H b=none)(hx:b∉ex):∃sl,h1.get? b=some { ob with slots:=sl }:=by
 by_cases hb:b∈fs
 ·exact u.slot b ob q n hb hx
 ·exact⟨ob.slots,u.keep b ob q n hb hx⟩
theorem Un.kept(k:∀b u,h.get? b=some u->h'.get? b=some u):Un fs ex H H h h':=
 ⟨λb ob q _ _ _=>k b ob q,λb ob q _ _ _=>⟨ob.slots,k b ob q⟩,λ_ _ _ n _=>n,λb ob q _=>⟨ob,k b ob q⟩,λ_ _ q=>q,λ_ _ _ q=>q,λ_ ps q=>⟨#[],by rw[q];simp⟩⟩
theorem Un.refl:Un fs ex H H h h:=Un.kept λ_ _ q=>q
theorem Un.laid(k:∀b u,h.get? b=some u->h'.get? b=some u)(hp:h.objs.size<=a)(hn:H a=none):Un fs ex H (upd H a o) h h' where
 keep:=λb u q _ _ _=>k b u q
 slot:=λb u q _ _ _=>⟨u.slots,k b u q⟩
 free:=λb u q n _=>by rw[su (bb (cf (aQ q) hp))];exact n
 there:=λb u q _=>⟨u,k b u q⟩
 tups:=λb xs q=>by rw[su (vw q hn)];exact q
 frzs:=λb u xs q=>by rw[su (vw q hn)];exact q
 tbls:=λb ps q=>⟨#[],by rw[su (vw q hn),q];simp⟩
theorem Un.write(mu:Mut (H x))(he:e=x\/H e=some (.own x))(k:∀b u,b≠e->h.get? b=some u->h'.get? b=some u)(heo:∃u,h'.get? e=some u):Un fs ex H (upd H x o) h h':=by
 have hx:∀b,H b=none->b≠x:=λb n z=>by subst z;rw[n]at mu;exact mu
 have hb:∀b,H b=none->b≠e:=λb n z=>by
  subst z;rcases he with r|r
  ·exact hx b n r
  ·rw[n]at r;cases r
 have hm:∀b u,H b=some u->¬Mut (some u)->b≠x:=λb u q nm z=>by subst z;rw[q]at mu;exact nm mu
 refine⟨λb u q n _ _=>k b u (hb b n) q,λb u q n _ _=>⟨u.slots,k b u (hb b n) q⟩,λb u q n _=>by rw[su (hx b n)];exact n,λb u q _=>?_,
  λb xs q=>by rw[su (hm b _ q λz=>z)];exact q,λb u xs q=>by rw[su (hm b _ q λz=>z)];exact q,λb ps q=>⟨#[],by rw[su (hm b _ q λz=>z),q];simp⟩⟩
 by_cases hbe:b=e
 ·subst hbe;exact heo
 ·exact⟨u,k b u hbe q⟩
end
def trk(h:Heap)(H:Hp):List Addr:=(bH h.objs.size).filter λa=>(H a).isSome
def HX(h:Heap)(H:Hp):Heap:=W.hideAll h (trk h H)
theorem Nc(h:Heap)(H:Hp):(HX h H).objs.size=h.objs.size:=W.hideAll_size _ _
theorem Ou{h:Heap}(e:h.get? b=some o)(n:H b=none):(HX h H).get? b=some o:=
 W.hideAll_get _ e λhm=>by have q:(H b).isSome=true:=(bO.mp hm).2;rw[n]at q;simp at q
theorem Rv(e:(HX h H).get? b=some o):h.get? b=some o/\H b=none:=by
 have e':h.get? b=some o:=W.of_hideAll (trk h H) e;refine⟨e',?_⟩;cases q:H b with
 |none=>rfl
 |some x=>have hm:b∈trk h H:=bO.mpr ⟨cB.mpr (aQ e'),by simp[q]⟩;have z:(HX h H).get? b=none:=W.hideAll_none (trk h H) hm;rw[z]at e;cases e
def Rx(g h:Heap)(L:Addr):cH:=(bH h.objs.size).filterMap λa=>if a=L\/(g.get? a).isSome=true then none else (h.get? a).map λo=>(a,o)
def rest(g h:Heap)(L d:Addr):cH:=(Rx g h L).filter λp=>decide (p.1≠d)
structure Mod(K:ay)(mg:Str->Option ae)(base:Heap):Prop where
 kin:K.In base
 glob:base.Ns aX mg
 blt:∃mb,base.Ns builtinsNs mb/\∀x:Str,x≠"__name__" -> mb x=di x
 nolimit:base.NoLimit
structure Cx where
 prog:aV
 w:aL
 K:ay
 mg:Str->Option ae
 base:Heap
 A:aS
 N:aF
 s₀:ag
 H₀:Hp
 env:Env
 outer:List Env
 stack:List Env
 ex:List Addr
 fn:Str->Bool
 calm:Bool
 pn:cH
 xe:ae->ag->Prop
def frs(l:List Env):List Addr:=l.filterMap (·.frame)
abbrev Cx.fs(X:Cx):List Addr:=frs X.outer
def Vis(sc:cR)(x:Str):Prop:=sc.names.lookup x=some .local\/sc.names.lookup x=some .cell\/sc.names.lookup x=some .free
def Loc(sc:cR)(x:Str):Prop:=sc.names.lookup x=some .local\/sc.names.lookup x=some .cell
def Look(env:Env)(h:Heap)(m:Str->Option ae)(x:Str)(u:ae):Prop:=
 (env.kindOf x=some .local/\m x=some u)\/((env.kindOf x=some .cell\/env.kindOf x=some .free)/\∃c,env.cells.lookup x=some c/\h.IsCell c (some u))
structure Cx.Ok(X:Cx):Prop where
 mod:Mod X.K X.mg X.base
 kind:X.env.scope.kind=.function
 glob:X.env.globals=aX
 blt:X.env.builtins=builtinsNs
 above:X.s₀.heap.objs.size<=X.env.locals
 inj:∀x y c,X.env.cells.lookup x=some c->X.env.cells.lookup y=some c->x=y
 has:∀x,(X.env.kindOf x=some .cell\/X.env.kindOf x=some .free)->∃c,X.env.cells.lookup x=some c
 cab:∀x c,X.fn x=true->X.env.cells.lookup x=some c->X.s₀.heap.objs.size<=c
 hd:X.calm=true->X.A.handled=none
 frames:X.A.frames=some X.stack
 stk:X.stack=X.outer\/(X.stack=X.env::X.outer/\X.env.frame=some X.env.locals)
 exf:∀b∈X.ex,b≠X.env.locals/\∀x c,X.env.cells.lookup x=some c->c≠b
 bs:∀b o,X.base.get? b=some o->X.s₀.heap.get? b=some o/\X.H₀ b=none
 bsz:X.base.objs.size<=X.s₀.heap.objs.size
 noex:∀b o,X.base.get? b=some o->b∉X.ex
 exfs:∀b∈X.ex,b∉X.fs
 funs:X.s₀.heap.FunFrames X.base X.outer
 frf:∀b∈X.fs,X.H₀ b=none
structure Inv(X:Cx)(pins:cH)(σ:List (Option V))(H:Hp)(s:ag):Prop where
 ok:X.Ok
 os:s.os=X.s₀.os
 bare:dN s.gens
 base:Un X.fs X.ex X.H₀ H X.s₀.heap s.heap
 loc:∃m,s.heap.Ns X.env.locals m/\∀(i:Nat) (x:Str) (v:V),X.N[i]?=some x->σ[i]?=some (some v)->Vis X.env.scope x->∃u,RelV v u/\Look X.env s.heap m x u
 cell:∀x c,X.env.cells.lookup x=some c->∃v,s.heap.IsCell c v
 free:H X.env.locals=none
 freeC:∀x c,X.env.cells.lookup x=some c->H c=none
 pin:∀p∈X.pn++pins,s.heap.get? p.1=some p.2/\H p.1=none/\p.1≠X.env.locals/\p.1∉X.fs/\∀v,p.2.data≠.cell v
 hok:HOk X.prog X.w H s.heap
 len:σ.length=X.N.length
section
variable{X:Cx}{pins:cH}{σ:List (Option V)}{H H':Hp}{s:ag}{h':Heap}
theorem Cx.Ok.nofr(ok:X.Ok)(e:X.base.get? b=some o):b∉X.fs:=λhb=>by have:=(ok.funs.mem hb).1;rw[e]at this;cases this
theorem Inv.bs(I:Inv X pins σ H s):∀b o,X.base.get? b=some o->s.heap.get? b=some o/\H b=none:=λb o e=>
 ⟨I.base.keep b o (I.ok.bs b o e).1 (I.ok.bs b o e).2 (I.ok.nofr e) (I.ok.noex b o e),I.base.free b o (I.ok.bs b o e).1 (I.ok.bs b o e).2 (I.ok.noex b o e)⟩
theorem Inv.bk(I:Inv X pins σ H s):∀b o,X.base.get? b=some o->s.heap.get? b=some o:=λb o e=>(I.bs b o e).1
theorem Inv.mod(I:Inv X pins σ H s):Mod X.K X.mg X.base:=I.ok.mod
theorem Inv.kIn(I:Inv X pins σ H s):X.K.In s.heap:=I.ok.mod.kin.keeps I.bk
theorem Inv.fr(I:Inv X pins σ H s):∃m,Fr X.base X.env.locals s.heap m:=
 let ⟨m,hn,_⟩:=I.loc
 ⟨m,hn,I.bk,bQ I.ok.bsz I.ok.above⟩
theorem Inv.lt(I:Inv X pins σ H s):X.env.locals<s.heap.objs.size:=let ⟨_,hn,_⟩:=I.loc;hn.lt
theorem Inv.sz(I:Inv X pins σ H s):X.s₀.heap.objs.size<=s.heap.objs.size:=bQ I.ok.above (fq I.lt)
theorem Inv.nofs(I:Inv X pins σ H s)(h:s.heap.objs.size<=a):a∉X.fs:=λhb=>by obtain⟨_,o,ho,_⟩:=I.ok.funs.mem hb;exact au (cf (aQ ho) (bQ I.sz h)) (dG _)
theorem Inv.cne(I:Inv X pins σ H s):∀x c,X.env.cells.lookup x=some c->c≠X.env.locals:=λx c e z=>by obtain⟨v,o,ho,hd⟩:=I.cell x c e;obtain⟨m,⟨o',es,ep,ho',hd',_⟩,_⟩:=I.loc;rw[z,ho']at ho;cases ho;rw[hd']at hd;cases hd
theorem Inv.funs(I:Inv X pins σ H s):s.heap.FunFrames X.base X.outer:=by
 have all:∀(l:List Env),(∀b∈frs l,b∈X.fs)->X.s₀.heap.FunFrames X.base l->s.heap.FunFrames X.base l:=by
  intro l
  induction l with
  |nil=>intro _ _;trivial
  |cons env r ih=>intro hs hl;obtain⟨hk,⟨L,o,hf,hn,ho,hd⟩,hr⟩:=hl;have hL:L∈X.fs:=hs L (by unfold frs;rw[jV,hf];exact aY);obtain⟨sl,e⟩:=I.base.slot L o ho (I.ok.frf L hL) hL λz=>I.ok.exfs L z hL;exact⟨hk,⟨L,_,hf,hn,e,hd⟩,ih (λb hb=>hs b (by unfold frs;rw[jV,hf];exact bo _ hb)) hr⟩
 exact all X.outer (λ_ hb=>hb) I.ok.funs
theorem Inv.stack(I:Inv X pins σ H s):s.heap.FunFrames X.base X.stack:=by
 rcases I.ok.stk with e|⟨e,hf⟩
 ·rw[e];exact I.funs
 ·rw[e];obtain⟨m,hn,_⟩:=I.loc;refine .cons (by rw[I.ok.kind];decide) hf hn ?_ I.funs;exact Heap.get?_none_of_le (bQ I.ok.bsz I.ok.above)
theorem Inv.stkSub(I:Inv X pins σ H s):∀b∈frs X.stack,b∈X.env.locals::X.fs:=λb hb=>by
 rcases I.ok.stk with e|⟨e,hf⟩
 ·rw[e]at hb;exact bo _ hb
 ·rw[e]at hb;unfold frs at hb;rw[jV,hf]at hb;exact hb
theorem Inv.stkFree(I:Inv X pins σ H s):∀b∈frs X.stack,H b=none:=λb hb=>by
 rcases aN.mp (I.stkSub b hb)with e|hb
 ·rw[e];exact I.free
 ·obtain⟨_,o,ho,_⟩:=I.ok.funs.mem hb;exact I.base.free b o ho (I.ok.frf b hb) λz=>I.ok.exfs b z hb
theorem Inv.step{g':Array hU}{t':Nat}{d':Drawn}{ch:List Addr}(I:Inv X pins σ H s)
  (hch:∀b∈ch,(b∈X.ex\/X.s₀.heap.objs.size<=b)/\b≠X.env.locals/\(∀x c,X.env.cells.lookup x=some c->c≠b)/\∀p∈X.pn++pins,p.1≠b)
  (keep:∀b o,b≠X.env.locals->b∉X.fs->b∉ch->s.heap.get? b=some o->H b=none->h'.get? b=some o)
  (slot:∀b o,b≠X.env.locals->b∈X.fs->b∉ch->s.heap.get? b=some o->H b=none->∃sl,h'.get? b=some { o with slots:=sl }) (free:∀b o,b∉ch->s.heap.get? b=some o->H b=none->H' b=none)
  (there:∀b o,b∉ch->s.heap.get? b=some o->∃o',h'.get? b=some o')
  (tups:∀b xs,H b=some (.tup xs)->H' b=some (.tup xs)) (frzs:∀b o u,H b=some (.frz o u)->H' b=some (.frz o u)) (tbls:∀b ps,H b=some (.tbl ps)->∃more,H' b=some (.tbl (ps++more)))
  (ns:∀m,s.heap.Ns X.env.locals m->h'.Ns X.env.locals m) (hok:HOk X.prog X.w H' h') (hg:dN g'):
  Inv X pins σ H' { s with heap:=h',gens:=g',drawn:=d',toks:=t' }:=by
 have neL:∀b o,X.s₀.heap.get? b=some o->b≠X.env.locals:=λb o e=>bb (cf (aQ e) I.ok.above);have neC:∀b o,X.s₀.heap.get? b=some o->b∉X.ex->b∉ch:=λb o e hx hb=>by
  rcases(hch b hb).1 with z|z
  ·exact hx z
  ·exact au (cf (aQ e) z) (dG _)
 have cellK:∀x c,X.env.cells.lookup x=some c->∀v,s.heap.IsCell c v->h'.IsCell c v:=λx c e v ⟨o,ho,hd⟩=>by
  have nch:c∉ch:=λz=>(hch c z).2.2.1 x c e rfl;by_cases hc:c∈X.fs
  ·obtain⟨sl,q⟩:=slot c o (I.cne x c e) hc nch ho (I.freeC x c e);exact⟨_,q,hd⟩
  ·exact⟨o,keep c o (I.cne x c e) hc nch ho (I.freeC x c e),hd⟩
 refine⟨I.ok,I.os,hg,⟨λb o e n hb hx=>?_,λb o e n hb hx=>?_,λb o e n hx=>?_,λb o e hx=>?_,λb xs e=>tups b xs (I.base.tups b xs e),λb o xs e=>frzs b o xs (I.base.frzs b o xs e),λb ps e=>?_⟩,?_,λx c e=>?_,?_,λx c e=>?_,λp hp=>?_,hok,I.len⟩
 ·exact keep b o (neL b o e) hb (neC b o e hx) (I.base.keep b o e n hb hx) (I.base.free b o e n hx)
 ·obtain⟨sl,e1⟩:=I.base.slot b o e n hb hx;obtain⟨sl',e2⟩:=slot b _ (neL b o e) hb (neC b o e hx) e1 (I.base.free b o e n hx);exact⟨sl',e2⟩
 ·obtain⟨o',e1⟩:=I.base.there b o e hx;exact free b o' (neC b o e hx) e1 (I.base.free b o e n hx)
 ·obtain⟨o',e1⟩:=I.base.there b o e hx;exact there b o' (neC b o e hx) e1
 ·obtain⟨m1,e1⟩:=I.base.tbls b ps e;obtain⟨m2,e2⟩:=tbls b _ e1;exact⟨m1++m2,by rw[e2,Array.append_assoc]⟩
 ·obtain⟨m,hn,hl⟩:=I.loc;refine⟨m,ns m hn,λi x v e1 e2 e3=>?_⟩;obtain⟨u,r,l⟩:=hl i x v e1 e2 e3;refine⟨u,r,?_⟩;rcases l with l|⟨k,c,e,z⟩
  ·exact .inl l
  ·exact .inr ⟨k,c,e,cellK x c e _ z⟩
 ·obtain⟨v,z⟩:=I.cell x c e;exact⟨v,cellK x c e v z⟩
 ·obtain⟨m,⟨o,_,_,ho,_⟩,_⟩:=I.loc;exact free _ o (λz=>(hch _ z).2.1 rfl) ho I.free
 ·obtain⟨v,o,ho,hd⟩:=I.cell x c e;exact free c o (λz=>(hch c z).2.2.1 x c e rfl) ho (I.freeC x c e)
 ·obtain⟨e,n,ne,nf,d⟩:=I.pin p hp;have nch:p.1∉ch:=λz=>(hch p.1 z).2.2.2 p hp rfl;exact⟨keep p.1 p.2 ne nf nch e n,free p.1 p.2 nch e n,ne,nf,d⟩
theorem Inv.un(I:Inv X pins σ H s)(u:Un X.fs [] H H' s.heap h')(hok:HOk X.prog X.w H' h'):Inv X pins σ H' { s with heap:=h',toks:=t' }:=by
 obtain⟨m,⟨o,es,ep,ho,r⟩,_⟩:=id I.loc;obtain⟨sl,hL⟩:=u.any ho I.free (by simp);exact I.step (g':=s.gens) (d':=s.drawn) (ch:=[]) (λ_ z=>nomatch z) (λb o _ hb _ e n=>u.keep b o e n hb (by simp)) (λb o _ hb _ e n=>u.slot b o e n hb (by simp)) (λb o _ e n=>u.free b o e n (by simp)) (λb o _ e=>u.there b o e (by simp)) u.tups u.frzs u.tbls (λm' hm=>by
  obtain⟨o',es',ep',ho',r'⟩:=hm;rw[ho]at ho';cases ho';exact⟨_,es',ep',hL,r'⟩) hok I.bare
theorem Inv.call(I:Inv X pins σ H s)(u:Un (frs X.stack) ch H H' s.heap h')(hok:HOk X.prog X.w H' h')(hg:dN g')
  (hch:∀b∈ch,(b∈X.ex\/X.s₀.heap.objs.size<=b)/\b≠X.env.locals/\(∀x c,X.env.cells.lookup x=some c->c≠b)/\∀p∈X.pn++pins,p.1≠b):
  Inv X pins σ H' { s with heap:=h',gens:=g',drawn:=d',toks:=t' }:=by
 obtain⟨m,⟨o,es,ep,ho,r⟩,_⟩:=id I.loc;obtain⟨sl,hL⟩:=u.any ho I.free λz=>(hch _ z).2.1 rfl;exact I.step (ch:=ch) hch (λb o hL hb hc e n=>u.keep b o e n (λz=>(aN.mp (I.stkSub b z)).elim hL hb) hc) (λb o _ _ hc e n=>u.any e n hc) (λb o hc e n=>u.free b o e n hc) (λb o hc e=>u.there b o e hc) u.tups u.frzs u.tbls (λm' hm=>by
  obtain⟨o',es',ep',ho',r'⟩:=hm;rw[ho]at ho';cases ho';exact⟨_,es',ep',hL,r'⟩) hok hg
theorem Inv.turned(I:Inv X pins σ H s)(k:∀b o,b≠it->s.heap.get? b=some o->h'.get? b=some o)(hn:H it=none)(hL:it≠X.env.locals)
  (h1:it∈X.ex\/X.s₀.heap.objs.size<=it) (h2:∀x c,X.env.cells.lookup x=some c->c≠it) (h3:∀p∈X.pn++pins,p.1≠it):Inv X pins σ H { s with heap:=h',toks:=t' }:=by
 have nit:∀b u,H b=some u->b≠it:=λb u e z=>by rw[z,hn]at e;cases e
 refine I.step (g':=s.gens) (d':=s.drawn) (ch:=[it]) (λb hb=>?_) (λb o _ _ hc e _=>k b o (λz=>hc (by simp[z])) e) (λb o _ _ hc e _=>⟨o.slots,k b o (λz=>hc (by simp[z])) e⟩) (λ_ _ _ _ n=>n)
  (λb o hc e=>⟨o,k b o (λz=>hc (by simp[z])) e⟩) (λ_ _ e=>e) (λ_ _ _ e=>e) (λb ps e=>⟨#[],by rw[e];simp⟩) (λm hm=>?_) (λb u e=>?_) I.bare
 ·have e:b=it:=by simpa using hb
  subst e;exact⟨h1,hL,h2,h3⟩
 ·obtain⟨o,es,ep,ho,r⟩:=hm;exact⟨o,es,ep,k _ o (c9 hL) ho,r⟩
 ·refine(I.hok b u e).stay (λc v hc q=>k c v ?_ q) (λ_ q=>q) λ_ _ q=>q;rcases hc with z|z
  ·rw[z];exact nit b u e
  ·exact nit c _ z
theorem Inv.tok(I:Inv X pins σ H s)(t:Nat):Inv X pins σ H { s with toks:=t }:=I.un (h':=s.heap) (t':=t) Un.refl I.hok
theorem Inv.kept(I:Inv X pins σ H s)(k:∀b u,s.heap.get? b=some u->h'.get? b=some u):Inv X pins σ H { s with heap:=h',toks:=t' }:=I.un (Un.kept k) (I.hok.kept k)
theorem Inv.laid(I:Inv X pins σ H s)(k:∀b u,s.heap.get? b=some u->h'.get? b=some u)(hp:s.heap.objs.size<=a)(new:tY X.prog X.w (upd H a o) h' a o):
  Inv X pins σ (upd H a o) { s with heap:=h',toks:=t' }:=I.un (Un.laid k hp (I.hok.fresh hp)) (I.hok.laid k hp new)
theorem Inv.write(I:Inv X pins σ H s)(mu:Mut (H x))(he:e=x\/H e=some (.own x))(k:∀b u,b≠e->s.heap.get? b=some u->h'.get? b=some u)(heo:∃u,h'.get? e=some u)
  (new:tY X.prog X.w (upd H x o) h' x o):Inv X pins σ (upd H x o) { s with heap:=h',toks:=t' }:=I.un (Un.write mu he k heo) (I.hok.write mu he k heo new)
theorem Inv.weak{σ':List (Option V)}(I:Inv X pins σ H s)(hl:σ'.length=σ.length)(w:∀(i:Nat) v,σ'[i]?=some (some v)->σ[i]?=some (some v)):Inv X pins σ' H s:=
 ⟨I.ok,I.os,I.bare,I.base,let ⟨m,hn,hl'⟩:=I.loc;⟨m,hn,λi x v e1 e2 e3=>hl' i x v e1 (w i v e2) e3⟩,I.cell,I.free,I.freeC,I.pin,I.hok,hl.trans I.len⟩
theorem Inv.pins_of(I:Inv X pins σ H s)(h:∀p∈pins',s.heap.get? p.1=some p.2/\H p.1=none/\p.1≠X.env.locals/\p.1∉X.fs/\∀v,p.2.data≠.cell v):Inv X pins' σ H s:=
 ⟨I.ok,I.os,I.bare,I.base,I.loc,I.cell,I.free,I.freeC,λp hp=>(bC.mp hp).elim (λz=>I.pin p (bK _ z)) (h p),I.hok,I.len⟩
theorem Jj{N:aF}(hN:N.Nodup){i j:Nat}{x:Str}(a:N[i]?=some x)(b:N[j]?=some x):i=j:=by obtain⟨h1,e1⟩:=bW.mp a;obtain⟨h2,e2⟩:=bW.mp b;exact(j8 hN).mp (e1.trans e2.symm)
theorem Nd(I:Inv X pins σ H s)(hN:X.N.Nodup)(hi:X.N[i]?=some x)(hx:Loc X.env.scope x)(r:RelV v u)
  (h:∀s',Inv X pins (σ.set i (some v)) H s'->(∃a,fW a s.heap s'.heap/\(a=X.env.locals\/X.env.cells.lookup x=some a))->Q () s') (hf:X.fn x=true\/X.env.scope.names.lookup x=some .local:=by first|exact .inl rfl|exact .inr rfl|assumption):ai M A (storeName X.env x u) Q E s:=by
 obtain⟨m,hn,hl⟩:=id I.loc;have hcls:(X.env.scope.kind==.class||(X.env.scope.kind==.module&&X.env.locals != X.env.globals))=false:=by rw[I.ok.kind];rfl
 have hiσ:i<σ.length:=by rw[I.len];exact(bW.mp hi).1
 have cne:=I.cne;have tracked:∀{a:Addr} {h':Heap},(∃o,s.heap.get? a=some o/\H a=none)->fW a s.heap h'->HOk X.prog X.w H h':=λ{a h'} ha hs b ob e=>by
  obtain⟨_,_,hfree⟩:=ha;refine(I.hok b ob e).stay (λc w' hc q=>(hs.2 c ?_).trans q) (λ_ q=>q) λ_ _ q=>q;rintro rfl;rcases hc with rfl|hc
  ·rw[hfree]at e;cases e
  ·rw[hfree]at hc;cases hc
 rcases hx with hk|hk
 ·refine wpAny_storeName_local hk hn (λh' hn' hs=>?_) hcls;obtain⟨oL,_,_,hoL,_⟩:=id hn;refine h _ ⟨I.ok,I.os,I.bare,⟨λb o e n hb hx=>?_,λb o e n hb hx=>?_,I.base.free,λb o e hx=>?_,I.base.tups,I.base.frzs,I.base.tbls⟩,⟨_,hn',λj y v' e1 e2 e3=>?_⟩,λy c e=>?_,I.free,I.freeC,λp hp=>?_,tracked ⟨oL,hoL,I.free⟩ hs,by simpa using I.len⟩ ⟨_,hs,.inl rfl⟩
  ·exact(hs.2 b (bb (cf (aQ e) I.ok.above))).trans (I.base.keep b o e n hb hx)
  ·obtain⟨sl,e1⟩:=I.base.slot b o e n hb hx;exact⟨sl,(hs.2 b (bb (cf (aQ e) I.ok.above))).trans e1⟩
  ·obtain⟨o',e1⟩:=I.base.there b o e hx;exact⟨o',(hs.2 b (bb (cf (aQ e) I.ok.above))).trans e1⟩
  ·by_cases hj:j=i
   ·subst hj;rw[hi]at e1;cases e1;rw[iK hiσ]at e2;cases e2;exact⟨u,r,.inl ⟨hk,by simp⟩⟩
   ·rw[jR (c9 hj)]at e2;obtain⟨u',r',q⟩:=hl j y v' e1 e2 e3;refine⟨u',r',?_⟩;rcases q with ⟨k,e⟩|⟨k,c,e,z⟩
    ·refine .inl ⟨k,?_⟩;have:y≠x:=λe=>hj (Jj hN e1 (e▸hi));simp[this,e]
    ·exact .inr ⟨k,c,e,z.sameBut hs (cne y c e)⟩
  ·obtain⟨w',z⟩:=I.cell y c e;exact⟨w',z.sameBut hs (cne y c e)⟩
  ·obtain⟨e,n,ne,nf,d⟩:=I.pin p hp;exact⟨(hs.2 p.1 ne).trans e,n,ne,nf,d⟩
 ·have hfn:X.fn x=true:=by
   rcases hf with z|z
   ·exact z
   ·rw[z]at hk;cases hk
  obtain⟨c,hc⟩:=I.ok.has x (.inl hk);obtain⟨w',z⟩:=I.cell x c hc;refine wpAny_storeName_cell I.ok.kind hk hc z (λh' hc' hs=>?_);obtain⟨oc,hoc,hocd⟩:=id z;refine h { s with heap:=h' } ⟨I.ok,I.os,I.bare,⟨λb o e n hb hx=>?_,λb o e n hb hx=>?_,I.base.free,λb o e hx=>?_,I.base.tups,I.base.frzs,I.base.tbls⟩,⟨m,hn.sameBut hs (c9 (cne x c hc)),λj y v' e1 e2 e3=>?_⟩,λy c' e=>?_,I.free,I.freeC,λp hp=>?_,tracked ⟨oc,hoc,I.freeC x c hc⟩ hs,by simpa using I.len⟩ ⟨c,hs,.inr hc⟩
  ·exact(hs.2 b (bb (cf (aQ e) (I.ok.cab x c hfn hc)))).trans (I.base.keep b o e n hb hx)
  ·obtain⟨sl,e1⟩:=I.base.slot b o e n hb hx;exact⟨sl,(hs.2 b (bb (cf (aQ e) (I.ok.cab x c hfn hc)))).trans e1⟩
  ·obtain⟨o',e1⟩:=I.base.there b o e hx;exact⟨o',(hs.2 b (bb (cf (aQ e) (I.ok.cab x c hfn hc)))).trans e1⟩
  ·by_cases hj:j=i
   ·subst hj;rw[hi]at e1;cases e1;rw[iK hiσ]at e2;cases e2;exact⟨u,r,.inr ⟨.inl hk,c,hc,hc'⟩⟩
   ·rw[jR (c9 hj)]at e2;obtain⟨u',r',q⟩:=hl j y v' e1 e2 e3;refine⟨u',r',?_⟩;rcases q with q|⟨k,c',e,z'⟩
    ·exact .inl q
    ·refine .inr ⟨k,c',e,z'.sameBut hs ?_⟩;rintro rfl;exact hj (Jj hN e1 (I.ok.inj _ _ _ e hc▸hi))
  ·by_cases hcc:c'=c
   ·subst hcc;exact⟨_,hc'⟩
   ·obtain⟨w2,z2⟩:=I.cell y c' e;exact⟨w2,z2.sameBut hs hcc⟩
  ·obtain⟨e,n,ne,nf,d⟩:=I.pin p hp;refine⟨(hs.2 p.1 ?_).trans e,n,ne,nf,d⟩;intro q;rw[q,hoc]at e;have q':oc=p.2:=cq e;exact d w' (by rw[<-q'];exact hocd)
theorem Jk(I:Inv X pins σ H s)(hN:X.N.Nodup)(hi:X.N[i]?=some x)(hx:Loc X.env.scope x)(r:RelV v u)
  (h:∀s',Inv X pins (σ.set i (some v)) H s'->Q () s') (hf:X.fn x=true\/X.env.scope.names.lookup x=some .local:=by first|exact .inl rfl|exact .inr rfl|assumption):ai M A (storeName X.env x u) Q E s:=
 Nd I hN hi hx r (λs' I' _=>h s' I') hf
theorem Inv.call'{s':ag}(I:Inv X pins σ H s)(ho:s'.os=s.os)(u:Un (frs X.stack) ch H H' s.heap s'.heap)(hok:HOk X.prog X.w H' s'.heap)(hg:dN s'.gens)
  (hch:∀b∈ch,(b∈X.ex\/X.s₀.heap.objs.size<=b)/\b≠X.env.locals/\(∀x c,X.env.cells.lookup x=some c->c≠b)/\∀p∈X.pn++pins,p.1≠b):Inv X pins σ H' s':=by
 obtain⟨h',g',d',t',o'⟩:=s';have e:o'=s.os:=ho;subst e;exact I.call (g':=g') (t':=t') (d':=d') u hok hg hch
end
abbrev XK:=ae->Option Addr->Hp->Prop
abbrev St:=List (Option V)
abbrev VK:=V->Hp->Prop
abbrev TE:=St->Hp->VK->Prop
abbrev TT:=St->Hp->(Bool->Hp->Prop)->Prop
abbrev TA:=St->Hp->(bI->Hp->Prop)->Prop
structure Ends where
 nx:St->Hp->Prop
 rt:VK
 bk:St->Hp->Prop:=λ_ _=>False
 ct:St->Hp->Prop:=λ_ _=>False
abbrev TS:=Ends->St->Hp->Prop
def EP(X:Cx)(pins:cH)(σ:St)(Q:VK)(u:ae)(s':ag):Prop:=∃v H',Inv X pins σ H' s'/\RelV v u/\Q v H'
def TP(X:Cx)(pins:cH)(σ:St)(Q:Bool->Hp->Prop)(b:Bool)(s':ag):Prop:=∃H',Inv X pins σ H' s'/\Q b H'
def AP(X:Cx)(pins:cH)(σ:St)(Q:bI->Hp->Prop)(us:List ae)(s':ag):Prop:=∃vs H',Inv X pins σ H' s'/\Vals vs us/\Q vs H'
def SP(X:Cx)(pins:cH)(D:Ends)(f:Flow)(s':ag):Prop:=
 match f with
 |.next=>∃σ' H',Inv X pins σ' H' s'/\D.nx σ' H'
 |.brk=>∃σ' H',Inv X pins σ' H' s'/\D.bk σ' H'
 |.cont=>∃σ' H',Inv X pins σ' H' s'/\D.ct σ' H'
 |.ret u=>∃v σ' H',Inv X pins σ' H' s'/\RelV v u/\D.rt v H'
def PE(X:Cx)(e:Expr)(t:TE):Prop:=
 ∀(pins:cH) (s:ag) (σ:St) (H:Hp) (Q:VK),Inv X pins σ H s->t σ H Q->ai (model X.prog X.w) X.A (eval e X.env) (EP X pins σ Q) X.xe s
def PT(X:Cx)(e:Expr)(t:TT):Prop:=
 ∀(pins:cH) (s:ag) (σ:St) (H:Hp) (Q:Bool->Hp->Prop),Inv X pins σ H s->t σ H Q->ai (model X.prog X.w) X.A (isTrue e X.env (eval e X.env)) (TP X pins σ Q) X.xe s
def PW(X:Cx)(e:Expr)(t:TT):Prop:=
 ∀(whole:Sem ae) (pins:cH) (s:ag) (σ:St) (H:Hp) (Q:Bool->Hp->Prop),Inv X pins σ H s->t σ H Q->ai (model X.prog X.w) X.A (isTrue e X.env whole) (TP X pins σ Q) X.xe s
theorem PW.pt(h:PW X e t):PT X e t:=h _
def PA(X:Cx)(es:List Expr)(t:TA):Prop:=
 ∀(pos:Pos) (pins:cH) (s:ag) (σ:St) (H:Hp) (Q:bI->Hp->Prop),Inv X pins σ H s->t σ H Q->ai (model X.prog X.w) X.A (spliced (bD pos (aA es X.env))) (AP X pins σ Q) X.xe s
def PS(X:Cx)(st:Stmt)(t:TS):Prop:=
 ∀(pins:cH) (s:ag) (σ:St) (H:Hp) (D:Ends),Inv X pins σ H s->t D σ H->ai (model X.prog X.w) X.A (exec st X.env) (SP X pins D) X.xe s
def PSs(X:Cx)(st:List Stmt)(t:TS):Prop:=
 ∀(pins:cH) (s:ag) (σ:St) (H:Hp) (D:Ends),Inv X pins σ H s->t D σ H->ai (model X.prog X.w) X.A (execs st X.env) (SP X pins D) X.xe s
theorem thn{α:Type}{t:Sem α}{Q Q':α->ag->Prop}{M:Model}{A:aS}{E:ae->ag->Prop}{s:ag}(h:ai M A t Q E s)(hQ:∀a s,Q a s->Q' a s):ai M A t Q' E s:=bZ h hQ λ_ _ x=>x
section
variable{X:Cx}
theorem bin{a b:Expr}{ta tb:TE}(ha:PE X a ta)(hb:PE X b tb){pins:cH}{s:ag}{σ:St}{H:Hp}{R:V->V->Hp->Prop}(I:Inv X pins σ H s)(h:ta σ H λx H1=>tb σ H1 λy H2=>R x y H2)
  {α:Type} {Q:α->ag->Prop} {f:ae->ae->Sem α}
  (hf:∀v u s2 x y H2,Inv X pins σ H2 s2->RelV x v->RelV y u->R x y H2->ai (model X.prog X.w) X.A (f v u) Q X.xe s2):
  ai (model X.prog X.w) X.A (eval a X.env) (λv s₁=>ai (model X.prog X.w) X.A (eval b X.env) (λu s₂=>ai (model X.prog X.w) X.A (f v u) Q X.xe s₂) X.xe s₁) X.xe s:=by
 refine thn (ha pins s σ H _ I h) λv s1 zz=>?_;obtain⟨x,H1,I1,r1,q1⟩:=zz;refine thn (hb pins s1 σ H1 _ I1 q1) λu s2 zz=>?_;obtain⟨y,H2,I2,r2,q2⟩:=zz;exact hf v u s2 x y H2 I2 r1 r2 q2
def yL(i:Nat):TE:=λσ H Q=>∃v,σ[i]?=some (some v)/\Q v H
def tC(v:V):TE:=λ_ H Q=>Q v H
theorem U1(hN:X.N[i]?=some x)(hv:Vis X.env.scope x)(hd:(x==("__debug__" : Str))=false:=by decide)(hcd:(x==("__classdict__" : Str))=false:=by decide):PE X (.Name x pos) (yL i):=by
 intro pins s σ H Q I h;obtain⟨v,e,h⟩:=h;obtain⟨m,hn,hl⟩:=I.loc;obtain⟨u,r,l⟩:=hl i x v hN e hv;have fin:EP X pins σ Q u s:=⟨v,H,I,r,h⟩;rcases l with ⟨hk,hm⟩|⟨hk,c,hc,hcell⟩
 ·exact kW (wpAny_loadName_local I.ok.kind hk hn hm fin) hd
 ·rcases hk with hk|hk
  ·exact kW (wpAny_loadName_cell I.ok.kind hk hc hcell fin) hd
  ·exact kW (wpAny_loadName_free I.ok.kind hk hc hcell fin hcd) hd
theorem KH{i j pos}:PE X (.Constant (.int i) j pos) (tC (.int i)):=λ_ _ _ H _ I h=>wpAny_Constant_int ⟨.int i,H,I.tok _,⟨_,rfl⟩,h⟩
theorem YX{b j pos}:PE X (.Constant (.bool b) j pos) (tC (.bl b)):=λ_ _ _ H _ I h=>Constant_bool ⟨.bl b,H,I,rfl,h⟩
theorem U2{j pos}:PE X (.Constant .none j pos) (tC .non):=λ_ _ _ H _ I h=>Constant_none ⟨.non,H,I,rfl,h⟩
theorem Ov{x j pos}:PE X (.Constant (.str x) j pos) (tC (.str x)):=λ_ _ _ H _ I h=>Calls.Constant_str ⟨.str x,H,I.tok _,⟨_,rfl⟩,h⟩
def Gl(X:Cx)(x:Str):Prop:=X.env.kindOf x=some .globalImplicit
theorem B2(I:Inv X pins σ H s)(hg:Gl X x)(hm:X.mg x=some u)(h:Q u s)
  (hd:(x==("__debug__" : Str))=false:=by decide):ai (model X.prog X.w) X.A (eval (.Name x pos) X.env) Q E s:=
 ma I.ok.kind hg (Calls.loadGlobal_global (by rw[I.ok.glob];exact I.mod.glob.keeps I.bk) hm h) hd
theorem BE(I:Inv X pins σ H s)(hg:Gl X x)(hm:X.mg x=none)(hv:di x=some u)(h:Q u s)
  (hn:x≠"__name__" := by decide) (hd:(x==("__debug__" : Str))=false:=by decide):ai (model X.prog X.w) X.A (eval (.Name x pos) X.env) Q E s:=by
 obtain⟨mb,h1,h2⟩:=I.mod.blt;exact ma I.ok.kind hg (Calls.loadGlobal_builtin (by rw[I.ok.glob];exact I.mod.glob.keeps I.bk) hm (by rw[I.ok.blt];exact h1.keeps I.bk) ((h2 x hn).trans hv) h) hd
theorem LV(hg:Gl X x)(hm:X.mg x=some u)(r:RelV v u)(hd:(x==("__debug__" : Str))=false:=by decide):PE X (.Name x pos) (tC v):=
 λ_ _ _ H _ I h=>B2 I hg hm ⟨v,H,I,r,h⟩ hd
theorem RA(hg:Gl X x)(hm:X.mg x=none)(hv:di x=some u)(r:RelV v u)(hn:x≠"__name__" := by decide)(hd:(x==("__debug__" : Str))=false:=by decide):PE X (.Name x pos) (tC v):=
 λ_ _ _ H _ I h=>BE I hg hm hv ⟨v,H,I,r,h⟩ hn hd
variable{a b:Expr}{ta tb:TE}{pos:Pos}
def PC(X:Cx)(op:CmpOp)(a b:Expr)(t:TE):Prop:=
 ∀(pins:cH) (s:ag) (σ:St) (H:Hp) (Q:VK),Inv X pins σ H s->t σ H Q->
  ai (model X.prog X.w) X.A (eval a X.env) (λv s₁=>ai (model X.prog X.w) X.A (eval b X.env) (λu s₂=>ai (model X.prog X.w) X.A (br op v u) (EP X pins σ Q) X.xe s₂) X.xe s₁) X.xe s
def tB(t:TE):TT:=λσ H Q=>t σ H λx H1=>∃c,x=.bl c/\Q c H1
theorem U3(h:PC X op a b t)(h1:cX op b=false:=by first|exact nobehind _ (by decide) (by decide)|rfl):PE X (.Compare a [op] [b] pos) t:=λpins s σ H Q I hw=>oo (h pins s σ H Q I hw) h1
theorem U4(h:PC X op a b t)(h1:cX op b=false:=by first|exact nobehind _ (by decide) (by decide)|rfl):PT X (.Compare a [op] [b] pos) (tB t):=by intro pins s σ H Q I hw;refine mF (thn (h pins s σ H _ I hw) λv s1 h1=>thn h1 λu s2 h2=>thn h2 λc s3 zz=>?_) h1;obtain⟨x,H1,I1,r1,q1⟩:=zz;obtain⟨d,rfl,q⟩:=q1;cases r1;exact c5 ⟨H1,I1,q⟩
theorem U5(h:PE X e t)(he:∀whole,isTrue e X.env whole=(do let v<-whole;standAt e.pos;holding [v] (truthy v)):=by intro _;rfl):PT X e (tB t):=by intro pins s σ H Q I hw;refine isTrue_plain (thn (h pins s σ H _ I hw) λv s1 zz=>?_) (he _);obtain⟨x,H1,I1,r1,q1⟩:=zz;obtain⟨d,rfl,q⟩:=q1;cases r1;exact c5 ⟨H1,I1,q⟩
variable{tA tB':TT}{rest:List Expr}
def YY(t u:TT):TT:=λσ H Q=>t σ H λc H1=>if c=true then u σ H1 Q else Q false H1
def tOr(t u:TT):TT:=λσ H Q=>t σ H λc H1=>if c=true then Q true H1 else u σ H1 Q
def tNot(t:TT):TT:=λσ H Q=>t σ H λc H1=>Q (!c) H1
theorem RB(ha:PT X a tA):PW X (.BoolOp .And [a] pos) tA:=by
 intro wh pins s σ H Q I h;refine isTrue_and (thn (ha pins s σ H Q I h) λc s1 e=>?_);cases c with
 |true=>exact isTrue_and_nil e
 |false=>exact e
theorem U6(ha:PT X a tA):PW X (.BoolOp .Or [a] pos) tA:=by
 intro wh pins s σ H Q I h;refine isTrue_or (thn (ha pins s σ H Q I h) λc s1 e=>?_);cases c with
 |false=>exact isTrue_or_nil e
 |true=>exact e
theorem U7(ha:PT X a tA)(hb:PW X (.BoolOp .And (b::rest) pos) tB'):PW X (.BoolOp .And (a::b::rest) pos) (YY tA tB'):=by
 intro wh pins s σ H Q I h;refine isTrue_and (thn (ha pins s σ H _ I h) λc s1 zz=>?_);obtain⟨H1,I1,q1⟩:=zz;cases c with
 |true=>exact hb wh pins s1 σ H1 Q I1 q1
 |false=>exact⟨H1,I1,q1⟩
theorem YZ(ha:PT X a tA)(hb:PW X (.BoolOp .Or (b::rest) pos) tB'):PW X (.BoolOp .Or (a::b::rest) pos) (tOr tA tB'):=by
 intro wh pins s σ H Q I h;refine isTrue_or (thn (ha pins s σ H _ I h) λc s1 zz=>?_);obtain⟨H1,I1,q1⟩:=zz;cases c with
 |true=>exact⟨H1,I1,q1⟩
 |false=>exact hb wh pins s1 σ H1 Q I1 q1
theorem U8(ha:PT X a tA):PT X (.UnaryOp .Not a pos) (tNot tA):=by intro pins s σ H Q I h;exact isTrue_not (ha pins s σ H (λc H1=>Q (!c) H1) I h)
def Y0(ta tb:TE):TE:=λσ H Q=>ta σ H λx H1=>∃c,x=.bl c/\if c=true then tb σ H1 Q else Q (.bl false) H1
def tOrV(ta tb:TE):TE:=λσ H Q=>ta σ H λx H1=>∃c,x=.bl c/\if c=true then Q (.bl true) H1 else tb σ H1 Q
def Y1(ta:TE):TE:=λσ H Q=>ta σ H λx H1=>∃c,x=.bl c/\Q (.bl (!c)) H1
theorem U9{op}(h:PE X a t):PE X (.BoolOp op [a] pos) t:=λpins s σ H Q I hw=>BoolOp_one (h pins s σ H Q I hw)
theorem Va(ha:PE X a ta)(hb:PE X (.BoolOp .And (b::rest) pos) tb):PE X (.BoolOp .And (a::b::rest) pos) (Y0 ta tb):=by
 intro pins s σ H Q I h;refine BoolOp_and (thn (ha pins s σ H _ I h) λv s1 zz=>?_);obtain⟨x,H1,I1,r1,q1⟩:=zz;obtain⟨c,rfl,q1⟩:=q1;cases r1;refine c5 ?_;cases c with
 |true=>exact hb pins s1 σ H1 Q I1 q1
 |false=>exact⟨.bl false,H1,I1,rfl,q1⟩
theorem Y2(ha:PE X a ta)(hb:PE X (.BoolOp .Or (b::rest) pos) tb):PE X (.BoolOp .Or (a::b::rest) pos) (tOrV ta tb):=by
 intro pins s σ H Q I h;refine BoolOp_or (thn (ha pins s σ H _ I h) λv s1 zz=>?_);obtain⟨x,H1,I1,r1,q1⟩:=zz;obtain⟨c,rfl,q1⟩:=q1;cases r1;refine c5 ?_;cases c with
 |false=>exact hb pins s1 σ H1 Q I1 q1
 |true=>exact⟨.bl true,H1,I1,rfl,q1⟩
theorem Vb(ha:PE X a ta):PE X (.UnaryOp .Not a pos) (Y1 ta):=by intro pins s σ H Q I h;refine UnaryOp_ (thn (ha pins s σ H _ I h) λv s1 zz=>?_);obtain⟨x,H1,I1,r1,q1⟩:=zz;obtain⟨c,rfl,q1⟩:=q1;cases r1;exact not_of (c5 ⟨.bl (!c),H1,I1,rfl,q1⟩)
def tIf(t:TT)(ta tb:TE):TE:=λσ H Q=>t σ H λc H1=>if c=true then ta σ H1 Q else tb σ H1 Q
theorem Ow(hc:PT X c tA)(ha:PE X a ta)(hb:PE X b tb):PE X (.IfExp c a b pos) (tIf tA ta tb):=by
 intro pins s σ H Q I h;refine wpAny_IfExp (thn (hc pins s σ H _ I h) λd s1 zz=>?_);obtain⟨H1,I1,q1⟩:=zz;cases d with
 |true=>exact ha pins s1 σ H1 Q I1 q1
 |false=>exact hb pins s1 σ H1 Q I1 q1
end
def SqL(K:ay)(H:Hp)(a:Addr)(xs:bI):Prop:=
 Rd H a (.lst xs)\/
  ∃(o:Obj) (its:Array ae) (n:Nat),K.lookup a=some o/\o.cls=.type "list" /\ o.dict=none/\o.data=.seq its n/\its.size<=aJ/\Vals xs its.toList
def SqT(K:ay)(H:Hp)(a:Addr)(xs:bI):Prop:=
 Rd H a (.tup xs)\/
  ∃(o:Obj) (its:Array ae) (n:Nat),K.lookup a=some o/\o.cls=.type "tuple" /\ o.data=.seq its n/\its.size<=aJ/\Vals xs its.toList
def absV:ae->Option V
 |.none=>some .non
 |.bool b=>some (.bl b)
 |.int i _=>some (.int i)
 |.str x _=>some (.str x)
 |.bytes b _=>some (.byt b)
 |.float b _=>some (.flt b)
 |.ref a=>some (.ref a)
 |.type n=>some (.ty n)
 |_=>none
theorem RelV.abs(r:RelV x u):absV u=some x:=by
 cases x with
 |non=>cases r;rfl
 |bl _=>cases r;rfl
 |int _=>obtain⟨t,rfl⟩:=r;rfl
 |str _=>obtain⟨t,rfl⟩:=r;rfl
 |byt _=>obtain⟨t,rfl⟩:=r;rfl
 |flt _=>obtain⟨t,rfl⟩:=r;rfl
 |ref _=>cases r;rfl
 |ty _=>cases r;rfl
theorem RelV.inj(r:RelV x u)(q:RelV y u):x=y:=cq (r.abs.symm.trans q.abs)
theorem Vals.inj:∀{xs ys:bI} {us:List ae},Vals xs us->Vals ys us->xs=ys
 |_,_,_,.nil,.nil=>rfl
 |_,_,_,.cons r t,.cons r' t'=>by rw[r.inj r',Vals.inj t t']
section
variable{X:Cx}{pins:cH}{σ:St}{H:Hp}{s:ag}{a:Addr}{xs ys:bI}
theorem SqL.of{K:ay}(h:H a=some (.lst xs)):SqL K H a xs:=.inl (.inl h)
theorem SqT.of{K:ay}(h:H a=some (.tup xs)):SqT K H a xs:=.inl (.inl h)
theorem Inv.list(I:Inv X pins σ H s)(h:SqL X.K H a xs):∃its:List ae,Vals xs its/\PlainL s.heap a its.toArray/\xs.length<=aJ:=by
 rcases h with h|⟨o,its,n,hk,hc,hd,hs,hz,r⟩
 ·obtain⟨z,its,n,r,e⟩:=h.ok I.hok;exact⟨its,r,⟨_,n,e,rfl,rfl,rfl⟩,z⟩
 ·refine⟨its.toList,r,⟨o,n,I.kIn a o hk,hc,hd,by simpa using hs⟩,?_⟩;have e:=r.length;simp only[eW]at e;omega
theorem Inv.tuple(I:Inv X pins σ H s)(h:SqT X.K H a xs):∃its:List ae,Vals xs its/\dP s.heap a its.toArray/\xs.length<=aJ:=by
 rcases h with h|⟨o,its,n,hk,hc,hs,hz,r⟩
 ·obtain⟨z,its,r,p⟩:=h.ok I.hok;exact⟨its,r,p,z⟩
 ·refine⟨its.toList,r,⟨o,I.kIn a o hk,hc,n,by simpa using hs⟩,?_⟩;have e:=r.length;simp only[eW]at e;omega
theorem Inv.list_inj(I:Inv X pins σ H s)(h:SqL X.K H a xs)(h':SqL X.K H a ys):xs=ys:=by
 obtain⟨its,r,⟨o,n,e,_,_,d⟩,_⟩:=I.list h;obtain⟨its',r',⟨o',n',e',_,_,d'⟩,_⟩:=I.list h';rw[e]at e';cases e';rw[d]at d';injection d' with d1 _;have:its=its':=by simpa using aU oX d1
 subst this;exact r.inj r'
theorem Inv.tuple_inj(I:Inv X pins σ H s)(h:SqT X.K H a xs)(h':SqT X.K H a ys):xs=ys:=by
 obtain⟨its,r,⟨o,e,_,n,d⟩,_⟩:=I.tuple h;obtain⟨its',r',⟨o',e',_,n',d'⟩,_⟩:=I.tuple h';rw[e]at e';cases e';rw[d]at d';injection d' with d1 _;have:its=its':=by simpa using aU oX d1
 subst this;exact r.inj r'
end
abbrev Cx.wish(X:Cx)(E:ae->ag->Prop):Cx:={ X with xe:=E }
abbrev Cx.nox(X:Cx):Cx:=X.wish λ_ _=>False
theorem Cx.Ok.wish{X:Cx}(ok:X.Ok)(E:ae->ag->Prop):(X.wish E).Ok:=
 ⟨ok.mod,ok.kind,ok.glob,ok.blt,ok.above,ok.inj,ok.has,ok.cab,ok.hd,ok.frames,ok.stk,ok.exf,ok.bs,ok.bsz,ok.noex,ok.exfs,ok.funs,ok.frf⟩
theorem Cx.Ok.unwish{X:Cx}(ok:(X.wish E).Ok):X.Ok:=
 ⟨ok.mod,ok.kind,ok.glob,ok.blt,ok.above,ok.inj,ok.has,ok.cab,ok.hd,ok.frames,ok.stk,ok.exf,ok.bs,ok.bsz,ok.noex,ok.exfs,ok.funs,ok.frf⟩
section
variable{X:Cx}{pins:cH}{σ:St}{H:Hp}{s:ag}{E:ae->ag->Prop}
theorem Inv.wish(I:Inv X pins σ H s)(E:ae->ag->Prop):Inv (X.wish E) pins σ H s:=⟨I.ok.wish E,I.os,I.bare,I.base,I.loc,I.cell,I.free,I.freeC,I.pin,I.hok,I.len⟩
theorem Inv.unwish(I:Inv (X.wish E) pins σ H s):Inv X pins σ H s:=⟨I.ok.unwish,I.os,I.bare,I.base,I.loc,I.cell,I.free,I.freeC,I.pin,I.hok,I.len⟩
theorem SP.unwish{D:Ends}(h:SP (X.wish E) pins D f s'):SP X pins D f s':=by
 cases f with
 |next=>obtain⟨σ',H',I,q⟩:=h;exact⟨σ',H',I.unwish,q⟩
 |brk=>obtain⟨σ',H',I,q⟩:=h;exact⟨σ',H',I.unwish,q⟩
 |cont=>obtain⟨σ',H',I,q⟩:=h;exact⟨σ',H',I.unwish,q⟩
 |ret u=>obtain⟨v,σ',H',I,r,q⟩:=h;exact⟨v,σ',H',I.unwish,r,q⟩
theorem PSs.nox{st:List Stmt}(h:PSs X.nox st t):PSs X st t:=λpins s σ H D I hw=>
 bZ (h pins s σ H D (I.wish _) hw) (λ_ _ q=>q.unwish) λ_ _ z=>cO z
end
section
variable{X:Cx}{st:Stmt}{rest:List Stmt}{t u:TS}{e:Expr}{te:TE}{pos:Pos}
def Y3:TS:=λD σ H=>D.nx σ H
def tSeq(t u:TS):TS:=λD σ H=>t { D with nx:=u D } σ H
theorem RD:PSs X [] Y3:=λ_ _ σ H _ I h=>iY ⟨σ,H,I,h⟩
theorem EO(h1:PS X st t)(h2:PSs X rest u):PSs X (st::rest) (tSeq t u):=by
 intro pins s σ H D I h;refine nJ (thn (h1 pins s σ H { D with nx:=u D } I h) λf s1 q=>?_);cases f with
 |next=>obtain⟨σ',H',I',q⟩:=q;exact h2 pins s1 σ' H' D I' q
 |ret v=>exact q
 |brk=>exact q
 |cont=>exact q
theorem HY(h1:PS X st t):PSs X [st] t:=by
 intro pins s σ H D I h;refine nJ (thn (h1 pins s σ H D I h) λf s1 q=>?_);cases f with
 |next=>exact iY q
 |ret v=>exact q
 |brk=>exact q
 |cont=>exact q
theorem Inv.quiet(I:Inv X pins σ H s):interactive X.env=false:=by simp[interactive,I.ok.kind]
def Uw(te:TE):TS:=λD σ H=>te σ H λ_ H1=>D.nx σ H1
theorem LW(he:PE X e te)(hs:dt e none pos.line X.env=pure false:=by rfl):PS X (.Expr e pos) (Uw te):=by intro pins s σ H D I h;exact wpAny_Expr_any (thn (he pins s σ H _ I h) λv s1 ⟨x,H1,I1,r1,q1⟩=>⟨σ,H1,I1,q1⟩) I.quiet hs
def Y4(te:TE):TS:=λD σ H=>te σ H D.rt
theorem KI(he:PE X e te):PS X (.Return (some e) pos) (Y4 te):=by intro pins s σ H D I h;exact wpAny_Return_some (thn (he pins s σ H _ I h) λv s1 ⟨x,H1,I1,r1,q1⟩=>⟨x,σ,H1,I1,r1,q1⟩)
def tIfS(c:TT)(t u:TS):TS:=λD σ H=>c σ H λb H1=>if b=true then t D σ H1 else u D σ H1
theorem Y5(hc:PT X c tc)(ha:PSs X a t)(hb:PSs X b u):PS X (.If c a b pos) (tIfS tc t u):=by
 intro pins s σ H D I h;refine wpAny_If (thn (hc pins s σ H _ I h) λd s1 zz=>?_);obtain⟨H1,I1,q1⟩:=zz;cases d with
 |true=>exact ha pins s1 σ H1 D I1 q1
 |false=>exact hb pins s1 σ H1 D I1 q1
end
abbrev TG:=V->St->Hp->(St->Hp->Prop)->Prop
abbrev TGs:=bI->St->Hp->(St->Hp->Prop)->Prop
def PG(X:Cx)(target:Expr)(t:TG):Prop:=
 ∀(pins:cH) (s:ag) (σ:St) (H:Hp) (v:V) (u:ae) (Q:St->Hp->Prop),Inv X pins σ H s->RelV v u->t v σ H Q->
  ai (model X.prog X.w) X.A (assign target X.env u) (λ_ s'=>∃σ' H',Inv X pins σ' H' s'/\Q σ' H') X.xe s
def PGs(X:Cx)(ts:List Expr)(t:TGs):Prop:=
 ∀(pins:cH) (s:ag) (σ:St) (H:Hp) (vs:bI) (us:List ae) (Q:St->Hp->Prop),Inv X pins σ H s->Vals vs us->t vs σ H Q->
  ai (model X.prog X.w) X.A (assignInOrder ((cP ts X.env).map (·.2)) us) (λ_ s'=>∃σ' H',Inv X pins σ' H' s'/\Q σ' H') X.xe s
section
variable{X:Cx}{pos:Pos}
def yZ(i:Nat):TG:=λv σ H Q=>Q (σ.set i (some v)) H
theorem LX(hN:X.N.Nodup)(hi:X.N[i]?=some x)(hx:Loc X.env.scope x)(hf:X.fn x=true\/X.env.scope.names.lookup x=some .local:=by first|exact .inl rfl|exact .inr rfl|assumption):PG X (.Name x pos) (yZ i):=by intro pins s σ H v u Q I r h;exact wpAny_assign_Name (Jk I hN hi hx r (λs' I'=>⟨_,H,I',h⟩) hf)
def Y6:TGs:=λvs σ H Q=>vs=[]/\Q σ H
def Ux(t:TG)(u:TGs):TGs:=λvs σ H Q=>∃v r,vs=v::r/\t v σ H λσ' H'=>u r σ' H' Q
theorem RE:PGs X [] Y6:=by intro pins s σ H vs us Q I r h;obtain⟨e,h⟩:=h;subst e;cases r;exact assignInOrder_nil ⟨σ,H,I,h⟩
theorem Ox(h1:PG X e t)(h2:PGs X es u)
  (hs:(cP (e::es) X.env).map (·.2)=assign e X.env::(cP es X.env).map (·.2):=by rfl):PGs X (e::es) (Ux t u):=by
 intro pins s σ H vs us Q I r h;obtain⟨v,vr,e1,h⟩:=h;subst e1;cases r with
 |cons r rr=>rw[hs];refine assignInOrder_cons (thn (h1 pins s σ H _ _ _ I r h) λ_ s1 zz=>?_);obtain⟨σ1,H1,I1,q1⟩:=zz;exact h2 pins s1 σ1 H1 _ _ Q I1 rr q1
def Vc(K:ay)(n:Nat)(t:TGs):TG:=λv σ H Q=>∃a xs,v=.ref a/\SqT K H a xs/\xs.length=n/\t xs σ H Q
theorem Vd(hc:X.calm=true)(h:PGs X es t)
  (hn:(cP es X.env).length=n:=by rfl) (hst:(cP es X.env).findIdx? (·.1)=none:=by rfl):PG X (.Tuple es k pos) (Vc X.K n t):=by
 intro pins s σ H v u Q I r hw;obtain⟨a,xs,e1,hq,hl,hw⟩:=hw;subst e1;cases r;obtain⟨its,rv,ht,hz⟩:=I.tuple hq;refine assign_Tuple_tuple (I.ok.hd hc) ht (by simp[hn,<- hl,rv.length]) hst λh' hx=>?_;have I1:Inv X pins σ H { s with heap:=h' }:=I.kept (t':=s.toks) λb o e=>hx b o (bb (aQ e)) e;exact h pins _ σ H xs _ Q I1 (by simpa using rv) hw
def CU(te:TE)(g:TG):TS:=λD σ H=>te σ H λx H1=>g x σ H1 D.nx
theorem Ve(he:PE X e te)(hg:PG X tg g)(hs:swapsWithSole [tg] e pos.line X.env=pure false:=by rfl)(hw:swappedStores [tg] e X.env=pure none:=by rfl)
  (h1:(cP [tg] X.env).map (·.2)=[assign tg X.env]:=by rfl):PS X (.Assign [tg] e pos) (CU te g):=by
 intro pins s σ H D I h;refine wpAny_Assign_stores (thn (he pins s σ H _ I h) λv s1 zz=>?_) hs hw;obtain⟨x,H1,I1,r1,q1⟩:=zz;rw[h1];exact thn (hg pins s1 σ H1 x v _ I1 r1 q1) λ_ s2 q=>q
theorem Vf(hN:X.N.Nodup)(hi:X.N[i]?=some x)(hx:Loc X.env.scope x)(he:PE X e te)(hs:dt e (some (.Name x pos')) pos.line X.env=pure false:=by rfl)(hf:X.fn x=true\/X.env.scope.names.lookup x=some .local:=by first|exact .inl rfl|exact .inr rfl|assumption):
  PS X (.Assign [.Name x pos'] e pos) (CU te (yZ i)):=by
 intro pins s σ H D I h;refine wpAny_Assign_Name (thn (he pins s σ H _ I h) λv s1 zz=>?_) hs;obtain⟨y,H1,I1,r1,q1⟩:=zz;exact Jk I1 hN hi hx r1 (λs2 I2=>⟨_,H1,I2,q1⟩) hf
end
section
variable{X:Cx}{pos:Pos}
def Oy(c:TT)(tb:TS):TS:=λD σ H=>∃W:Nat->St->Hp->Prop,(∃m,W m σ H)/\∀m σ H,W m σ H->
 c σ H λb H1=>if b=true then ∃N:St->Hp->Prop,(∀σ' H',N σ' H'->∃m',m'<m/\W m' σ' H')/\tb { D with nx:=N,ct:=N,bk:=D.nx } σ H1 else D.nx σ H1
theorem Oz(hp:jn (model X.prog X.w) X.A X.env X.xe)(hc:PT X c tc)(hb:PSs X body tb):PS X (.While c body [] pos) (Oy tc tb):=by
 intro pins s σ H D I h;obtain⟨W,⟨m0,w0⟩,turn⟩:=h;refine wpAny_While (codeAny_whileLoop (λn s'=>∃σ' H',Inv X pins σ' H' s'/\W n σ' H') ?_ m0 ⟨σ,H,I,w0⟩);rintro n s1 ⟨σ1,H1,I1,w1⟩;refine fj hp (thn (hc pins s1 σ1 H1 _ I1 (turn n σ1 H1 w1)) λb s2 zz=>?_);obtain⟨H2,I2,q2⟩:=zz;cases b with
 |true=>
  obtain⟨N,hN,q2⟩:=q2;rw[aj rfl];refine fj hp (thn (hb pins s2 σ1 H2 _ I2 q2) λf s3 q3=>?_);cases f with
  |next=>obtain⟨σ3,H3,I3,n3⟩:=q3;obtain⟨m',hm,w3⟩:=hN σ3 H3 n3;exact⟨m',hm,σ3,H3,I3,w3⟩
  |cont=>obtain⟨σ3,H3,I3,n3⟩:=q3;obtain⟨m',hm,w3⟩:=hN σ3 H3 n3;exact⟨m',hm,σ3,H3,I3,w3⟩
  |brk=>exact q3
  |ret v=>exact q3
 |false=>rw[ao bA];exact iY ⟨σ1,H2,I2,q2⟩
end
structure It where
 go:Nat->Hp->Prop
 yld:Nat->Hp->V->Hp->Prop
 stop:Nat->Hp->Prop
def Gr(X:Cx)(pins:cH)(H:Hp)(b:Addr):Prop:=
 H b=none/\b≠X.env.locals/\b∉X.fs/\(b∈X.ex\/X.s₀.heap.objs.size<=b)/\(∀x c,X.env.cells.lookup x=some c->c≠b)/\∀p∈X.pn++pins,p.1≠b
theorem Inv.fpOk(I:Inv X pins σ H s)(hb:s.heap.objs.size<=b)(hn:H' b=none):Gr X pins H' b:=by
 refine⟨hn,fX (cf I.lt hb),I.nofs hb,.inr (bQ I.sz hb),λx c e z=>?_,λp hp z=>?_⟩
 ·obtain⟨v,q⟩:=I.cell x c e;exact au (cf q.lt (by rw[z];exact hb)) (dG _)
 ·exact au (cf (aQ (I.pin p hp).1) (by rw[z];exact hb)) (dG _)
structure Turn(P:aV)(w:aL)(K:ay)(tg:Expr)(J:It)(fp:List Addr)(it:Addr)(tn:Nat->Heap->Prop):Prop where
 mem:it∈fp
 obj:∀i h,tn i h->∀b∈fp,∃o,h.get? b=some o/\∀v,o.data≠.cell v
 keep:∀i h h',tn i h->(∀b∈fp,∀o,h.get? b=some o->h'.get? b=some o)->tn i h'
 item:∀(X:Cx),X.prog=P->X.w=w->X.K=K->X.calm=true->∀(i:Nat) (pins:cH) (s:ag) (σ:St) (H:Hp) (E:ae->ag->Prop),Inv X pins σ H s->(∀b∈fp,Gr X pins H b)->tn i s.heap->J.go i H->
  ai (model P w) X.A (pyNext (.ref it)) (λr s1=>∃u,r=some u/\
   ai (model P w) X.A (fR tg (.ref it) u) (λ_ s2=>∃x H',Inv X pins σ H' s2/\RelV x u/\J.yld i H x H'/\tn (i+1) s2.heap/\∀b∈fp,H' b=none) E s1) E s
 done:∀(X:Cx),X.prog=P->X.w=w->X.K=K->X.calm=true->∀(i:Nat) (pins:cH) (s:ag) (σ:St) (H:Hp) (E:ae->ag->Prop),Inv X pins σ H s->(∀b∈fp,Gr X pins H b)->tn i s.heap->J.stop i H->
  ai (model P w) X.A (pyNext (.ref it)) (λr s1=>r=none/\Inv X pins σ H s1) E s
 self:∀(A:aS) (i:Nat) (s:ag) (Q:ae->ag->Prop) (E:ae->ag->Prop),tn i s.heap->Q (.ref it) s->ai (model P w) A (pyIter (.ref it)) Q E s
abbrev TI:=St->Hp->(It->Hp->Prop)->Prop
def PIE(X:Cx)(pins:cH)(σ:St)(tg:Expr)(R:It->Hp->Prop)(itv:ae)(s2:ag):Prop:=
 ∃(it:Addr) (fp:List Addr) (tn:Nat->Heap->Prop) (J:It) (H':Hp),itv=.ref it/\Inv X pins σ H' s2/\Turn X.prog X.w X.K tg J fp it tn/\tn 0 s2.heap/\(∀b∈fp,Gr X pins H' b)/\R J H'
def PI(X:Cx)(tg iter:Expr)(wi:TI):Prop:=
 ∀(pins:cH) (s:ag) (σ:St) (H:Hp) (R:It->Hp->Prop),Inv X pins σ H s->wi σ H R->
  ai (model X.prog X.w) X.A (eval iter X.env) (λv s1=>ai (model X.prog X.w) X.A (pyIter v) (PIE X pins σ tg R) X.xe s1) X.xe s
theorem LY{s:ag}(ho:s.heap.get? it=some o)(hc:o.cls=.type n)(hd:o.data=.fields vs)
  (hn:["enumerate", "zip", "dict_itemiterator", "dict_reverseitemiterator", "odict_iterator", "itertools.zip_longest", "itertools.pairwise"].contains n=false) (hQ:Q () s):ai M A (fR tg (.ref it) u) Q E s:=by
 unfold fR;cases tg<;>first
  |exact aB hQ
  |(cases u<;>first
    |exact aB hQ
    |(refine aq (wpAny_load ho ?_)
      rw[hc,hd];show ai M A (if (["enumerate", "zip", "dict_itemiterator", "dict_reverseitemiterator", "odict_iterator", "itertools.zip_longest", "itertools.pairwise"].contains n&&vs[0]?==some (rawInt _))=true then _ else _) Q E s;rw[ao (by intro h;rw[hn,Bool.false_and]at h;cases h)];exact aB hQ))
def Itl(K:ay)(a:Addr):It:=
 ⟨λi H=>∃xs x,SqL K H a xs/\xs[i]?=some x,λi H x H'=>H'=H/\∀xs,SqL K H a xs->xs[i]?=some x,λi H=>∃xs,SqL K H a xs/\xs.length<=i⟩
def Itt(K:ay)(a:Addr):It:=
 ⟨λi H=>∃xs x,SqT K H a xs/\xs[i]?=some x,λi H x H'=>H'=H/\∀xs,SqT K H a xs->xs[i]?=some x,λi H=>∃xs,SqT K H a xs/\xs.length<=i⟩
def Itr(lo:Int)(n:Nat):It:=⟨λi _=>i<n,λi H x H'=>H'=H/\x=.int (lo+i),λi _=>n<=i⟩
theorem Nf{K:ay}(a it:Addr):Turn P w K tg (Itl K a) [it] it (λi h=>h.IsListIter it a i) where
 mem:=by simp
 obj:=λi h st b hb=>by
  have e:b=it:=by simpa using hb
  subst e;obtain⟨o,e,c,d⟩:=st;exact⟨o,e,λv z=>by rw[d]at z;cases z⟩
 keep:=λi h h' st k=>st.at λo e=>k it (by simp) o e
 item:=by
  sleep 4
  obtain⟨xs,x,hq,hx⟩:=hg;obtain⟨its,rv,p,hz⟩:=I.list hq;obtain⟨u,hu,ru⟩:=rv.get hx;obtain⟨f0,f1,f2,f3,f4,f5⟩:=hf it (by simp);refine wpAny_pyNext_list_item st p.isList (x:=u) (by simpa using hu) λh' st' sb=>?_;have I1:Inv X pins σ H { s with heap:=h' }:=I.turned (t':=s.toks) (λb o hb e=>(sb.2 b hb).trans e) f0 f1 f3 f4 f5;obtain⟨o,e,c,d⟩:=id st';exact⟨u,rfl,LY (s:={ s with heap:=h' }) e c d (by decide) ⟨x,H,I1,ru,⟨rfl,λys hy=>by rw[I.list_inj hy hq];exact hx⟩,st',λb hb=>(hf b hb).1⟩⟩
 done:=by
  sleep 4
  obtain⟨xs,hq,hx⟩:=hg;obtain⟨its,rv,p,hz⟩:=I.list hq;obtain⟨f0,f1,f2,f3,f4,f5⟩:=hf it (by simp);have hl:=rv.length;exact wpAny_pyNext_list_end (I.ok.hd hc) st p.isList (by simp;omega) λh' eb=>⟨rfl,I.turned (t':=s.toks) (λb o hb e=>eb b o hb e) f0 f1 f3 f4 f5⟩
 self:=λ_ _ _ _ _ st h=>wpAny_pyIter_listiter st h
theorem KJ{K:ay}(a it:Addr):Turn P w K tg (Itt K a) [it] it (λi h=>h.IsTupleIter it a i) where
 mem:=by simp
 obj:=λi h st b hb=>by
  have e:b=it:=by simpa using hb
  subst e;obtain⟨o,e,c,d⟩:=st;exact⟨o,e,λv z=>by rw[d]at z;cases z⟩
 keep:=λi h h' st k=>st.at λo e=>k it (by simp) o e
 item:=by
  sleep 4
  obtain⟨xs,x,hq,hx⟩:=hg;obtain⟨its,rv,p,hz⟩:=I.tuple hq;obtain⟨u,hu,ru⟩:=rv.get hx;obtain⟨f0,f1,f2,f3,f4,f5⟩:=hf it (by simp);refine wpAny_pyNext_tuple_item st (show s.heap.IsTuple a its.toArray from p) (x:=u) (by simpa using hu) λh' st' sb=>?_;have I1:Inv X pins σ H { s with heap:=h' }:=I.turned (t':=s.toks) (λb o hb e=>(sb.2 b hb).trans e) f0 f1 f3 f4 f5;obtain⟨o,e,c,d⟩:=id st';exact⟨u,rfl,LY (s:={ s with heap:=h' }) e c d (by decide) ⟨x,H,I1,ru,⟨rfl,λys hy=>by rw[I.tuple_inj hy hq];exact hx⟩,st',λb hb=>(hf b hb).1⟩⟩
 done:=by
  sleep 4
  obtain⟨xs,hq,hx⟩:=hg;obtain⟨its,rv,p,hz⟩:=I.tuple hq;obtain⟨f0,f1,f2,f3,f4,f5⟩:=hf it (by simp);have hl:=rv.length;exact wpAny_pyNext_tuple_end (I.ok.hd hc) st (show s.heap.IsTuple a its.toArray from p) (by simp;omega) λh' eb=>⟨rfl,I.turned (t':=s.toks) (λb o hb e=>eb b o hb e) f0 f1 f3 f4 f5⟩
 self:=λ_ _ _ _ _ st h=>wpAny_pyIter_tupleiter st h
theorem KL{K:ay}(it:Addr)(lo:Int)(n:Nat):Turn P w K tg (Itr lo n) [it] it (λi h=>IsRangeIter h it (lo+(i:Nat) * 1) ((n:Int) - (i:Nat)) 1) where
 mem:=by simp
 obj:=λi h st b hb=>by
  have e:b=it:=by simpa using hb
  subst e;exact⟨_,st,λv z=>by
   have z':Data.fields _=Data.cell v:=z;cases z'⟩
 keep:=λi h h' st k=>k it (by simp) _ st
 item:=by
  sleep 4
  obtain⟨f0,f1,f2,f3,f4,f5⟩:=hf it (by simp);have W:=Walks.range (prog:=X.prog) (w:=X.w) (I.ok.hd hc) it lo 1 n;refine W.item i s _ _ hg st λv h' tk hv st' kk=>?_;obtain⟨t,rfl⟩:=hv;have I1:Inv X pins σ H { s with heap:=h',toks:=tk }:=I.turned (λb o hb e=>kk b o (by simpa using hb) e) f0 f1 f3 f4 f5;refine⟨_,rfl,LY (s:={ s with heap:=h',toks:=tk }) (n:="range_iterator") st' rfl rfl (by decide) ⟨.int (lo+i),H,I1,⟨t,?_⟩,⟨rfl,rfl⟩,st',λb hb=>(hf b hb).1⟩⟩;rw[Int.mul_one]
 done:=by
  sleep 4
  obtain⟨f0,f1,f2,f3,f4,f5⟩:=hf it (by simp);exact wpAny_pyNext_range_end (I.ok.hd hc) st (by have:n<=i:=hg;omega) λh' eb=>⟨rfl,I.turned (t':=s.toks) (λb o hb e=>eb b o hb e) f0 f1 f3 f4 f5⟩
 self:=λ_ _ _ _ _ st h=>wpAny_pyIter_rangeiter st h
section
variable{X:Cx}{tg:Expr}
def OA(K:ay)(tl:TE):TI:=λσ H R=>tl σ H λx H1=>∃a,x=.ref a/\(∃xs,SqL K H1 a xs)/\R (Itl K a) H1
def Vg(K:ay)(tl:TE):TI:=λσ H R=>tl σ H λx H1=>∃a,x=.ref a/\(∃xs,SqT K H1 a xs)/\R (Itt K a) H1
theorem RF(hl:PE X l tl):PI X tg l (OA X.K tl):=by
 intro pins s σ H R I h;refine thn (hl pins s σ H _ I h) λv s1 zz=>?_;obtain⟨x,H1,I1,r1,q1⟩:=zz;obtain⟨a,e,⟨xs,hq⟩,q⟩:=q1;subst e;cases r1;obtain⟨its,rv,p,hz⟩:=I1.list hq;refine gK p.isList ?_;refine⟨s1.heap.objs.size,[s1.heap.objs.size],_,_,H1,rfl,I1.kept (t':=s1.toks) λb o e=>aM _ e,Nf a _,⟨_,bF _ rfl,rfl,rfl⟩,λb hb=>?_,q⟩;have e:b=s1.heap.objs.size:=by simpa using hb
 subst e;exact I1.fpOk (aI _) (I1.hok.fresh (aI _))
theorem Vh(hl:PE X l tl):PI X tg l (Vg X.K tl):=by
 intro pins s σ H R I h;refine thn (hl pins s σ H _ I h) λv s1 zz=>?_;obtain⟨x,H1,I1,r1,q1⟩:=zz;obtain⟨a,e,⟨xs,hq⟩,q⟩:=q1;subst e;cases r1;obtain⟨its,rv,p,hz⟩:=I1.tuple hq;refine mW (show s1.heap.IsTuple a its.toArray from p) ?_;refine⟨s1.heap.objs.size,[s1.heap.objs.size],_,_,H1,rfl,I1.kept (t':=s1.toks) λb o e=>aM _ e,KJ a _,⟨_,bF _ rfl,rfl,rfl⟩,λb hb=>?_,q⟩;have e:b=s1.heap.objs.size:=by simpa using hb
 subst e;exact I1.fpOk (aI _) (I1.hok.fresh (aI _))
theorem OB{lo:Int}{tk:Nat}(I:Inv X pins σ H s)(h1:-(2 ^ 62)<=lo)(h2:lo<2 ^ 62)(h3:-(2 ^ 62)<=hi)(h4:hi<2 ^ 62)
  (q:R (Itr lo (hi - lo).toNat) H):ai (model X.prog X.w) X.A (pyIter (.ref s.heap.objs.size)) (PIE X pins σ tg R) E { s with heap:=s.heap.push { cls:=.type "range", data:=.fields #[.int lo t,.int hi u,.int 1 v] },toks:=tk }:=by
 refine wpAny_pyIter_range (IsRange.new ..) (small_one h1 h2 h3 h4) ?_;have I1:Inv X pins σ H { s with heap:=s.heap.push { cls:=.type "range", data:=.fields #[.int lo t,.int hi u,.int 1 v] },toks:=tk }:=I.kept λb o e=>aM _ e;refine⟨(s.heap.push { cls:=.type "range", data:=.fields #[.int lo t,.int hi u,.int 1 v] }).objs.size,[(s.heap.push { cls:=.type "range", data:=.fields #[.int lo t,.int hi u,.int 1 v] }).objs.size],_,_,H,rfl,
  I1.kept (t':=tk) λb o e=>aM _ e,KL _ lo (hi - lo).toNat,?_,λb hb=>?_,q⟩
 ·have e1:lo+((0:Nat):Int) * 1=lo:=by simp
  have e2:(((hi - lo).toNat:Nat):Int) - ((0:Nat):Int)=qK lo hi 1:=by rw[rangeSize_one];split<;>omega
  show IsRangeIter _ _ (lo+((0:Nat):Int) * 1) ((((hi - lo).toNat:Nat):Int) - ((0:Nat):Int)) 1;rw[e1,e2];exact bF _ rfl
 ·have e:b=(s.heap.push { cls:=.type "range", data:=.fields #[.int lo t,.int hi u,.int 1 v] }).objs.size:=by simpa using hb
  subst e;exact I1.fpOk (aI _) (I1.hok.fresh (aI _))
def Uy(ta:TA):TI:=λσ H R=>ta σ H λvs H1=>∃j:Int,vs=[.int j]/\-(2 ^ 62)<=j/\j<2 ^ 62/\R (Itr 0 j.toNat) H1
theorem Ng(hg:Gl X "range")(hm:X.mg "range" = none)(ha:PA X [a] ta)(hs:aA [a] X.env=[(false,eval a X.env)]:=by rfl):PI X tg (.Call (.Name "range" p) [a] [] pos) (Uy ta):=by
 intro pins s σ H R I h;refine Call_ (BE I hg hm boot_range (callWith_type1 (thn (ha pos pins s σ H _ I h) λus s1 zz=>?_) hs rfl));obtain⟨vs,H1,I1,r1,q1⟩:=zz;obtain⟨j,e,q1,q2,q⟩:=q1;subst e;cases r1 with
 |cons r rr=>cases rr;obtain⟨t,rfl⟩:=r;exact call_range_1 (OB I1 (by omega) (by omega) q1 q2 (by simpa using q))
def Vi(wi:TI)(g:TG)(tb:TS):TS:=λD σ H=>wi σ H λJ H1=>∃W:Nat->Nat->St->Hp->Prop,(∃m,W 0 m σ H1)/\∀i m σ H,W i m σ H->
 (J.stop i H/\D.nx σ H)\/(J.go i H/\∃N:St->Hp->Prop,(∀σ' H',N σ' H'->∃m',m'<m/\W (i+1) m' σ' H')/\∀x H',J.yld i H x H'->g x σ H' λσ2 H2=>tb { D with nx:=N,ct:=N,bk:=D.nx } σ2 H2)
def ER(fp:List Addr)(h:Heap):cH:=fp.filterMap λb=>(h.get? b).map λo=>(b,o)
theorem ya{h:Heap}(hb:b∈fp)(e:h.get? b=some o):(b,o)∈ER fp h:=jZ.mpr ⟨b,hb,by rw[e];rfl⟩
theorem Nh(hp:p∈ER fp h):p.1∈fp/\h.get? p.1=some p.2:=by
 obtain⟨b,hb,e⟩:=jZ.mp hp;cases q:h.get? b with
 |none=>rw[q]at e;cases e
 |some o=>rw[q]at e;have e':(b,o)=p:=cq e;subst e';exact⟨hb,q⟩
theorem Inv.pinned(I:Inv X pins σ H s)(hf:∀b∈fp,Gr X pins H b)(ho:∀b∈fp,∃o,s.heap.get? b=some o/\∀v,o.data≠.cell v):Inv X (pins++ER fp s.heap) σ H s:=
 I.pins_of λp hp=>(bC.mp hp).elim (λz=>I.pin p (bS _ z)) λz=>by obtain⟨hb,e⟩:=Nh z;obtain⟨f0,f1,f2,_⟩:=hf p.1 hb;obtain⟨o,e',d⟩:=ho p.1 hb;rw[e]at e';cases e';exact⟨e,f0,f1,f2,d⟩
theorem Inv.unpinned(I:Inv X (pins++pl) σ H s):Inv X pins σ H s:=I.pins_of λp hp=>I.pin p (bS _ (bK _ hp))
theorem OC(hp:jn (model X.prog X.w) X.A X.env X.xe)(hc:X.calm=true)(hi:PI X tg iter wi)(hg:PG X tg g)(hb:PSs X body tb)
  (hs:∀x,gO iter X.env x=pure x:=by intro _;rfl):PS X (.For tg iter body [] pos) (Vi wi g tb):=by
 intro pins s σ H D I h;refine wpAny_For (thn (hi pins s σ H _ I h) λv s1 h1=>thn h1 λitv s2 h2=>?_) hs;obtain⟨it,fp,tn,J,H2,e,I2,T,st2,f2,W,⟨m0,w0⟩,turn⟩:=h2;subst e;have stat:∀{H':Hp},(∀b∈fp,H' b=none)->∀b∈fp,Gr X pins H' b:=λhn b hb=>⟨hn b hb,(f2 b hb).2⟩;refine codeAny_forLoop_any (λn s'=>∃i σ' H',Inv X pins σ' H' s'/\tn i s'.heap/\(∀b∈fp,H' b=none)/\W i n σ' H') ?_ m0 ⟨0,σ,H2,I2,st2,λb hb=>(f2 b hb).1,w0⟩;rintro n s3 ⟨i,σ3,H3,I3,st3,fr3,w3⟩;rcases turn i n σ3 H3 w3 with ⟨stop,qn⟩|⟨go,N,hN,step⟩
 ·refine fj hp (thn (T.done X rfl rfl rfl hc i pins s3 σ3 H3 X.xe I3 (stat fr3) st3 stop) λr s4 zz=>?_);obtain⟨hr,I4⟩:=zz;subst hr;exact iY ⟨σ3,H3,I4,qn⟩
 ·refine fj hp (thn (T.item X rfl rfl rfl hc i pins s3 σ3 H3 X.xe I3 (stat fr3) st3 go) λr s4 zz=>?_);obtain⟨u,hr,h4⟩:=zz;subst hr;refine fj hp (thn h4 λ_ s5 zz=>?_);obtain⟨x,H5,I5,r5,y5,st5,fr5⟩:=zz;have I5':=I5.pinned (stat fr5) (T.obj _ _ st5);refine fj hp (thn (hg _ s5 σ3 H5 x u _ I5' r5 (step x H5 y5)) λ_ s6 zz=>?_);obtain⟨σ6,H6,I6,q6⟩:=zz;refine fj hp (thn (hb _ s6 σ6 H6 _ I6 q6) λf s7 q7=>?_);have again:∀{σ7:St} {H7:Hp},Inv X (pins++ER fp s5.heap) σ7 H7 s7->N σ7 H7->∃m,m<n/\∃i σ' H',Inv X pins σ' H' s7/\tn i s7.heap/\(∀b∈fp,H' b=none)/\W i m σ' H':=λ{σ7 H7} I7 n7=>by obtain⟨m',hm,w7⟩:=hN σ7 H7 n7;refine⟨m',hm,i+1,σ7,H7,I7.unpinned,T.keep _ _ _ st5 λb hb o e=>(I7.pin (b,o) (bS _ (bS _ (ya hb e)))).1,λb hb=>?_,w7⟩;obtain⟨o,e,d⟩:=T.obj _ _ st5 b hb;exact(I7.pin (b,o) (bS _ (bS _ (ya hb e)))).2.1
  cases f with
  |next=>obtain⟨σ7,H7,I7,n7⟩:=q7;exact again I7 n7
  |cont=>obtain⟨σ7,H7,I7,n7⟩:=q7;exact again I7 n7
  |brk=>obtain⟨σ7,H7,I7,q7⟩:=q7;exact⟨σ7,H7,I7.unpinned,q7⟩
  |ret v=>obtain⟨x7,σ7,H7,I7,r7,q7⟩:=q7;exact⟨x7,σ7,H7,I7.unpinned,r7,q7⟩
end
abbrev R2:=V->V->Hp->VK->Prop
def OpR(X:Cx)(f:ae->ae->Sem ae)(r:R2):Prop:=
 ∀(pins:cH) (s:ag) (σ:St) (H:Hp) (x y:V) (v u:ae) (Q:VK),Inv X pins σ H s->RelV x v->RelV y u->r x y H Q->
  ai (model X.prog X.w) X.A (f v u) (EP X pins σ Q) X.xe s
def ux(X:Cx)(f:ae)(r:bI->Hp->VK->Prop):Prop:=
 ∀(pins:cH) (s:ag) (σ:St) (H:Hp) (xs:bI) (us:List ae) (Q:VK),Inv X pins σ H s->Vals xs us->r xs H Q->
  ai (model X.prog X.w) X.A (call f us) (EP X pins σ Q) X.xe s
def tOp(r:R2)(ta tb:TE):TE:=λσ H Q=>ta σ H λx H1=>tb σ H1 λy H2=>r x y H2 Q
def rI(C:Int->Int->Prop)(g:Int->Int->V):R2:=λx y H Q=>∃i j,x=.int i/\y=.int j/\C i j/\Q (g i j) H
def rI0(g:Int->Int->V):R2:=λx y H Q=>∃i j,x=.int i/\y=.int j/\Q (g i j) H
section
variable{X:Cx}{a b c:Expr}{ta tb tc:TE}{pos:Pos}
theorem Vj(ha:PE X a ta)(hb:PE X b tb){pins:cH}{s:ag}{σ:St}{H:Hp}{R:V->V->Hp->Prop}(I:Inv X pins σ H s)
  (h:ta σ H λx H1=>tb σ H1 λy H2=>R x y H2) {Q:ae->ag->Prop} {f:ae->ae->Sem ae}
  (hf:∀v u s2 x y H2,Inv X pins σ H2 s2->RelV x v->RelV y u->R x y H2->ai (model X.prog X.w) X.A (f v u) Q X.xe s2):
  ai (model X.prog X.w) X.A (eval a X.env) (λv s₁=>ai (model X.prog X.w) X.A (eval b X.env) (λu s₂=>ai (model X.prog X.w) X.A (f v u) Q X.xe s₂) X.xe s₁) X.xe s:=by
 refine thn (ha pins s σ H _ I h) λv s1 zz=>?_;obtain⟨x,H1,I1,r1,q1⟩:=zz;refine thn (hb pins s1 σ H1 _ I1 q1) λu s2 zz=>?_;obtain⟨y,H2,I2,r2,q2⟩:=zz;exact hf v u s2 x y H2 I2 r1 r2 q2
theorem OD(ho:OpR X (cQ op) r)(ha:PE X a ta)(hb:PE X b tb):PE X (.BinOp a op b pos) (tOp r ta tb):=by intro pins s σ H Q I h;exact wpAny_BinOp (Vj ha hb I h λv u s2 x y H2 I2 rx ry q=>ho pins s2 σ H2 x y v u Q I2 rx ry q)
theorem opI{f:ae->ae->Sem ae}{C:Int->Int->Prop}{g:Int->Int->Int}
  (rule:∀(i j:Int) (t u:Tok) (s:ag) (Q:ae->ag->Prop) (E:ae->ag->Prop),C i j->Q (.int (g i j) s.toks) { s with toks:=s.toks+1 }->ai (model X.prog X.w) X.A (f (.int i t) (.int j u)) Q E s):
  OpR X f (rI C λi j=>.int (g i j)):=by
 intro pins s σ H x y v u Q I rx ry h;obtain⟨i,j,rfl,rfl,hc,q⟩:=h;obtain⟨t,rfl⟩:=rx;obtain⟨t',rfl⟩:=ry;exact rule i j t t' s _ _ hc ⟨.int (g i j),H,I.tok _,⟨_,rfl⟩,q⟩
theorem Y7{f:ae->ae->Sem ae}{g:Int->Int->Int}
  (rule:∀(i j:Int) (t u:Tok) (s:ag) (Q:ae->ag->Prop) (E:ae->ag->Prop),Q (.int (g i j) s.toks) { s with toks:=s.toks+1 }->ai (model X.prog X.w) X.A (f (.int i t) (.int j u)) Q E s):
  OpR X f (rI0 λi j=>.int (g i j)):=by
 intro pins s σ H x y v u Q I rx ry h;obtain⟨i,j,rfl,rfl,q⟩:=h;obtain⟨t,rfl⟩:=rx;obtain⟨t',rfl⟩:=ry;exact rule i j t t' s _ _ ⟨.int (g i j),H,I.tok _,⟨_,rfl⟩,q⟩
theorem RG{f:ae->ae->Sem ae}{g:Int->Int->Bool}
  (rule:∀(i j:Int) (t u:Tok) (s:ag) (Q:ae->ag->Prop) (E:ae->ag->Prop),Q (.bool (g i j)) s->ai (model X.prog X.w) X.A (f (.int i t) (.int j u)) Q E s):
  OpR X f (rI0 λi j=>.bl (g i j)):=by
 intro pins s σ H x y v u Q I rx ry h;obtain⟨i,j,rfl,rfl,q⟩:=h;obtain⟨t,rfl⟩:=rx;obtain⟨t',rfl⟩:=ry;exact rule i j t t' s _ _ ⟨.bl (g i j),H,I,rfl,q⟩
def Vk(i j:Int):Prop:=0<j/\j<1073741824
def Y8(i j:Int):Prop:=0<=j/\j<=1000000/\i.natAbs<2 ^ 64
def RH(i j:Int):Prop:=(-(2 ^ 64)<i/\i<2 ^ 64)\/(-(2 ^ 64)<j/\j<2 ^ 64)
theorem RH.ok(h:RH i j):IntMulOk i j:=by
 rcases h with ⟨h1,h2⟩|⟨h1,h2⟩
 ·exact .of_left (oM h1 h2)
 ·exact .of_right (oM h1 h2)
theorem Vl:OpR X (cQ .Add) (rI0 λi j=>.int (i+j)):=Y7 λ_ _ _ _ _ _ _ q=>add_int q
theorem Vm:OpR X (cQ .Sub) (rI0 λi j=>.int (i - j)):=Y7 λ_ _ _ _ _ _ _ q=>sub_int q
theorem Vn:OpR X (cQ .Mult) (rI RH λi j=>.int (i * j)):=opI λ_ _ _ _ _ _ _ hc q=>mul_int q hc.ok
theorem RI:OpR X (cQ .FloorDiv) (rI Vk λi j=>.int (i / j)):=opI λi j _ _ _ _ _ hc q=>by have h1:(0:Int)<j:=hc.1;have h2:j<1073741824:=hc.2;exact floordiv_int (by omega) (by rw[Int.fdiv_eq_ediv_of_nonneg i (by omega)];exact q) (.inl (PyProof.noPylong_small (by omega)))
theorem Vo:OpR X (cQ .Mod) (rI (λ_ j=>0<j) λi j=>.int (i % j)):=opI λi j _ _ _ _ _ hc q=>by have h1:(0:Int)<j:=hc;exact mod_int' (by omega) (by rw[Int.fmod_eq_emod_of_nonneg i (by omega)];exact q)
theorem Vp:OpR X (cQ .Pow) (rI Y8 λi j=>.int (i ^ j.toNat)):=opI λ_ _ _ _ _ _ _ hc q=>pow_int_small hc.1 hc.2.1 hc.2.2 q
end
def OE:V->V->Bool
 |.non,.non=>true|.non,.int _=>true|.int _,.non=>true|.non,.bl _=>true|.bl _,.non=>true|.non,.str _=>true|.str _,.non=>true
 |.int _,.int _=>true|.bl _,.bl _=>true|.str _,.str _=>true|.byt _,.byt _=>true
 |.int _,.str _=>true|.str _,.int _=>true|.bl _,.str _=>true|.str _,.bl _=>true
 |_,_=>false
def rEq:R2:=λx y H Q=>OE x y=true/\Q (.bl (decide (x=y))) H
def rNe:R2:=λx y H Q=>OE x y=true/\Q (.bl (!decide (x=y))) H
theorem LZ:decide (V.int i=V.int j)=(i==j):=by rw[cK];simp
theorem OF:decide (V.bl i=V.bl j)=(i==j):=by rw[cK];simp
theorem L0:decide (V.str i=V.str j)=(i==j):=by rw[cK];simp
theorem L1:decide (V.byt i=V.byt j)=(i.toList==j.toList):=by rw[cK];cases i;cases j;simp
section
variable{X:Cx}{a b c:Expr}{ta tb tc:TE}{pos:Pos}
theorem tH(I:Inv X pins σ H s)(q:Q (.bl k) H)(e:k=k'):EP X pins σ Q (.bool k') s:=by subst e;exact⟨.bl k,H,I,rfl,q⟩
theorem Y9:OpR X (br .Eq) rEq:=by
 intro pins s σ H x y v u Q I rx ry h;obtain⟨hs,q⟩:=h;cases x with
 |non=>
  cases rx;cases y with
  |non=>cases ry;exact qg (tH I q (by simp))
  |bl j=>cases ry;exact qh (tH I q (by simp))
  |int j=>obtain⟨t',rfl⟩:=ry;exact qu (tH I q (by simp))
  |str j=>obtain⟨t',rfl⟩:=ry;exact qv (tH I q (by simp))
  |_=>exact au (show false=true from hs) bA
 |bl i=>
  cases rx;cases y with
  |non=>cases ry;exact qj (tH I q (by simp))
  |bl j=>cases ry;exact eq_bool (tH I q OF)
  |str j=>obtain⟨t',rfl⟩:=ry;exact qk (tH I q (by simp))
  |_=>exact au (show false=true from hs) bA
 |int i=>
  obtain⟨t,rfl⟩:=rx;cases y with
  |non=>cases ry;exact qw (tH I q (by simp))
  |int j=>obtain⟨t',rfl⟩:=ry;exact eq_int (tH I q LZ)
  |str j=>obtain⟨t',rfl⟩:=ry;exact qz (tH I q (by simp))
  |_=>exact au (show false=true from hs) bA
 |str i=>
  obtain⟨t,rfl⟩:=rx;cases y with
  |non=>cases ry;exact qA (tH I q (by simp))
  |bl j=>cases ry;exact ql (tH I q (by simp))
  |int j=>obtain⟨t',rfl⟩:=ry;exact qB (tH I q (by simp))
  |str j=>obtain⟨t',rfl⟩:=ry;exact eq_str (tH I q L0)
  |_=>exact au (show false=true from hs) bA
 |byt i=>
  obtain⟨t,rfl⟩:=rx;cases y with
  |byt j=>obtain⟨t',rfl⟩:=ry;exact W.eq_bytes (tH I q L1)
  |_=>exact au (show false=true from hs) bA
 |_=>cases y<;>exact au (show false=true from hs) bA
theorem Za:OpR X (br .NotEq) rNe:=by
 intro pins s σ H x y v u Q I rx ry h;obtain⟨hs,q⟩:=h;cases x with
 |non=>
  cases rx;cases y with
  |non=>cases ry;exact qm (tH I q (by simp))
  |bl j=>cases ry;exact qo (tH I q (by simp))
  |int j=>obtain⟨t',rfl⟩:=ry;exact qC (tH I q (by simp))
  |str j=>obtain⟨t',rfl⟩:=ry;exact qD (tH I q (by simp))
  |_=>exact au (show false=true from hs) bA
 |bl i=>
  cases rx;cases y with
  |non=>cases ry;exact qp (tH I q (by simp))
  |bl j=>cases ry;exact ne_bool (tH I q (aU not OF))
  |str j=>obtain⟨t',rfl⟩:=ry;exact qq (tH I q (by simp))
  |_=>exact au (show false=true from hs) bA
 |int i=>
  obtain⟨t,rfl⟩:=rx;cases y with
  |non=>cases ry;exact qE (tH I q (by simp))
  |int j=>obtain⟨t',rfl⟩:=ry;exact ne_int (tH I q (aU not LZ))
  |str j=>obtain⟨t',rfl⟩:=ry;exact qF (tH I q (by simp))
  |_=>exact au (show false=true from hs) bA
 |str i=>
  obtain⟨t,rfl⟩:=rx;cases y with
  |non=>cases ry;exact qG (tH I q (by simp))
  |bl j=>cases ry;exact qr (tH I q (by simp))
  |int j=>obtain⟨t',rfl⟩:=ry;exact qH (tH I q (by simp))
  |str j=>obtain⟨t',rfl⟩:=ry;exact ne_str (tH I q (aU not L0))
  |_=>exact au (show false=true from hs) bA
 |byt i=>
  obtain⟨t,rfl⟩:=rx;cases y with
  |byt j=>obtain⟨t',rfl⟩:=ry;exact W.ne_bytes (tH I q (aU not L1))
  |_=>exact au (show false=true from hs) bA
 |_=>cases y<;>exact au (show false=true from hs) bA
theorem Zb:OpR X (br .Lt) (rI0 λi j=>.bl (decide (i<j))):=RG λ_ _ _ _ _ _ _ q=>lt_int q
theorem Zc:OpR X (br .LtE) (rI0 λi j=>.bl (decide (i<=j))):=RG λ_ _ _ _ _ _ _ q=>le_int q
theorem Zd:OpR X (br .Gt) (rI0 λi j=>.bl (decide (j<i))):=RG λ_ _ _ _ _ _ _ q=>gt_int q
theorem Ze:OpR X (br .GtE) (rI0 λi j=>.bl (decide (j<=i))):=RG λ_ _ _ _ _ _ _ q=>ge_int q
theorem Vq:OpR X (br .Is) (λx y H Q=>y=.non/\Q (.bl (decide (x=.non))) H):=by
 intro pins s σ H x y v u Q I rx ry h;obtain⟨rfl,q⟩:=h;cases ry;refine is_none_gen (tH I q ?_);cases x<;>first
  |(cases rx;rfl)
  |(obtain⟨t,rfl⟩:=rx;rfl)
theorem RJ:OpR X (br .IsNot) (λx y H Q=>y=.non/\Q (.bl (!decide (x=.non))) H):=by
 intro pins s σ H x y v u Q I rx ry h;obtain⟨rfl,q⟩:=h;cases ry;refine isnot_none_gen (tH I q ?_);cases x<;>first
  |(cases rx;rfl)
  |(obtain⟨t,rfl⟩:=rx;rfl)
theorem RK(ho:OpR X (br op) r)(ha:PE X a ta)(hb:PE X b tb)(hm:cX op b=false):PE X (.Compare a [op] [b] pos) (tOp r ta tb):=by intro pins s σ H Q I h;exact oo (Vj ha hb I h λv u s2 x y H2 I2 rx ry q=>ho pins s2 σ H2 x y v u Q I2 rx ry q) hm
def OG(t:TE):TT:=λσ H Q=>t σ H λx H'=>∃k,x=.bl k/\Q k H'
theorem RM(ho:OpR X (br op) r)(ha:PE X a ta)(hb:PE X b tb)(hm:cX op b=false):PT X (.Compare a [op] [b] pos) (OG (tOp r ta tb)):=by
 intro pins s σ H Q I h;refine mF (thn (ha pins s σ H _ I h) λv s1 ⟨x,H1,I1,r1,q1⟩=>thn (hb pins s1 σ H1 _ I1 q1) λu s2 ⟨y,H2,I2,r2,q2⟩=>
  thn (ho pins s2 σ H2 x y v u _ I2 r1 r2 q2) λc s3 ⟨z,H3,I3,r3,k,e,q3⟩=>?_) hm
 subst e;cases r3;exact c5 ⟨H3,I3,q3⟩
def KM(r r':R2)(ta tb tc:TE):TE:=λσ H Q=>ta σ H λx H1=>tb σ H1 λy H2=>r x y H2 λz H3=>∃k,z=.bl k/\
 (if k=true then tc σ H3 λw' H4=>r' y w' H4 Q else Q (.bl false) H3)
theorem OH(ho:OpR X (br op) r)(ho':OpR X (br op') r')(ha:PE X a ta)(hb:PE X b tb)(hc:PE X c tc)
  (hm:lastMarks [op,op'] [b,c]=false:=by with_unfolding_all rfl):PE X (.Compare a [op,op'] [b,c] pos) (KM r r' ta tb tc):=by
 intro pins s σ H Q I h;refine Compare_chain (thn (ha pins s σ H _ I h) λv s1 ⟨x,H1,I1,r1,q1⟩=>chain_link (thn (hb pins s1 σ H1 _ I1 q1) λu s2 ⟨y,H2,I2,r2,q2⟩=>
  thn (ho pins s2 σ H2 x y v u _ I2 r1 r2 q2) λd s3 ⟨z,H3,I3,r3,k,e,q3⟩=>?_)) hm
 subst e;cases r3;refine c5 ?_;cases k with
 |false=>exact ite_ff ⟨.bl false,H3,I3,rfl,q3⟩
 |true=>exact ite_tt (chain_last (thn (hc pins s3 σ H3 _ I3 q3) λw' s4 ⟨z',H4,I4,r4,q4⟩=>ho' pins s4 σ H4 y z' u w' Q I4 r2 r4 q4))
theorem OI(ho:OpR X (br op) r)(ho':OpR X (br op') r')(ha:PE X a ta)(hb:PE X b tb)(hc:PE X c tc)
  (hm:lastMarks [op,op'] [b,c]=false:=by with_unfolding_all rfl):PT X (.Compare a [op,op'] [b,c] pos) (OG (KM r r' ta tb tc)):=by
 intro pins s σ H Q I h;refine isTrue_chain (thn (ha pins s σ H _ I h) λv s1 ⟨x,H1,I1,r1,q1⟩=>test_link (thn (hb pins s1 σ H1 _ I1 q1) λu s2 ⟨y,H2,I2,r2,q2⟩=>
  thn (ho pins s2 σ H2 x y v u _ I2 r1 r2 q2) λd s3 ⟨z,H3,I3,r3,k,e,q3⟩=>?_)) hm
 subst e;cases r3;refine c5 ?_;cases k with
 |false=>obtain⟨k',e',q'⟩:=q3;cases e';exact ite_ff ⟨H3,I3,q'⟩
 |true=>refine ite_tt (test_last (thn (hc pins s3 σ H3 _ I3 q3) λw' s4 ⟨z',H4,I4,r4,q4⟩=>thn (ho' pins s4 σ H4 y z' u w' _ I4 r2 r4 q4) λd' s5 ⟨z2,H5,I5,r5,k2,e2,q5⟩=>?_));subst e2;cases r5;exact c5 ⟨H5,I5,q5⟩
theorem ES:(aJ:Nat)<2 ^ 63:=by rw[bR];decide
theorem vals1(r:Vals [x] us):∃u,us=[u]/\RelV x u:=by
 cases r with
 |cons r1 r2=>cases r2;exact⟨_,rfl,r1⟩
theorem vals2(r:Vals [x,y] us):∃u w',us=[u,w']/\RelV x u/\RelV y w':=by
 cases r with
 |cons r1 r2=>
  cases r2 with
  |cons r3 r4=>cases r4;exact⟨_,_,rfl,r1,r3⟩
theorem Ni:ux X (.type "int") (λxs H Q=>(∃i,xs=[.int i]/\Q (.int i) H)\/∃k,xs=[.bl k]/\Q (.int (if k then 1 else 0)) H):=by
 intro pins s σ H xs us Q I r h;rcases h with ⟨i,rfl,q⟩|⟨k,rfl,q⟩
 ·obtain⟨u,rfl,t,rfl⟩:=vals1 r;exact call_int_int ⟨.int i,H,I,⟨_,rfl⟩,q⟩
 ·obtain⟨u,rfl,r1⟩:=vals1 r;cases r1;exact call_int_bool ⟨.int (if k then 1 else 0),H,I.tok _,⟨_,rfl⟩,q⟩
end
structure KN(h:Heap)(x dx C:Addr)(mA:Str->Option ae):Prop where
 obj:h.get? x=some (dM C dx)
 ns:h.Ns1 dx mA
 ne:dx≠x
theorem Nj{h:Heap}(n:h.Ns1 dx mA):∃od,h.get? dx=some od/\∀name,jo name od=some (mA name):=by
 obtain⟨o,es,ep,ho,hd,hk,_,hm⟩:=n;refine⟨o,ho,λname=>?_⟩;have e:=hm name;unfold nsFind findBy at e;rw[<-Array.find?_toList]at e;unfold jo;rw[hd];dsimp only;split
 ·rename_i y q;rw[q]at e;exact aU some e
 ·rename_i q;rw[q]at e;have a:es.toList.any (·.refKey)=false:=by rw[ni];intro y hy;obtain⟨z,t,hkey⟩:=hk y (Array.mem_toList_iff.mp hy);simp[DictEntry.refKey,hkey]
  have a':¬es.toList.any (·.refKey)=true:=by rw[a];exact bA
  rw[ao a'];exact aU some e
theorem KN.look(I:KN h x dx C mA):∃od,W.InstAt h x (dM C dx) C (some od)/\∀name,jo name od=some (mA name):=
 let ⟨od,ho,hl⟩:=Nj I.ns
 ⟨od,⟨I.obj,rfl,rfl,ho⟩,hl⟩
section
variable{prog:aV}{w:aL}{A:aS}{E:ae->ag->Prop}{s:ag}{K:ay}{x dx C f:Addr}{mA:Str->Option ae}{name:Str}{v:ae}
theorem get_map(X:K.In s.heap)(I:KN s.heap x dx C mA)(hg:jj K C name=true)(hh:kL K C=true)
  (ha:cE K (.ref C) name=some none) (hv:mA name=some v) (hv':W.handedIn v=true) (h:Q v { s with toks:=s.toks+1 }):
  ai (model prog w) A (getAttr (.ref x) name expr) Q E s:=by
 obtain⟨od,J,hl⟩:=I.look;exact W.get_value X J (kr hg).1 (W.findObj_own hh ha rfl (by rw[hl,hv])) hv' h
theorem OJ(X:K.In s.heap)(I:KN s.heap x dx C mA)(hg:jj K C name=true)
  (hf:cE K (.ref C) name=some (some (.ref f))) (ht:ju K (.ref f)=true) (hv:mA name=none) (h:Q (.ref f,[.ref x]) s):
  ai (model prog w) A (getMethod (.ref x) name pl) Q E s:=by
 obtain⟨od,J,hl⟩:=I.look;exact W.method_fn X J (kr hg).1 (kr hg).2 hf (beq_iff_eq.mp ht) (by show (jo name od).map (·.isSome)=some false;rw[hl,hv];rfl) h
theorem RN(X:K.In s.heap)(I:KN s.heap x dx C mA)
  (hs:cE K (.ref C) "__setattr__" = some (some (.builtin "object.__setattr__"))) (hp:o9 K C=true) (ht:lg K C name=some none) (hh:kL K C=true)
  (hw:kD mA ns) (hsz:ns.length<=aJ)
  (h:∀h',KN h' x dx C (λy=>if y=name then some v else mA y)->fW dx s.heap h'->Q () { s with heap:=h',toks:=s.toks+2 }):
  ai (model prog w) A (setAttr (.ref x) name v) Q E s:=by
 obtain⟨od,J,hl⟩:=I.look;refine W.set_plain X J hs (W.osa_open (s:={ s with toks:=s.toks+1 }) (r:=none) X J hp ht λb=>?_);obtain⟨cd,hc,hd'⟩:=W.any_some hh;have hx:s.heap.get? x=some ⟨.ref C,some dx,.plain,#[]⟩:=I.obj;refine aq (aB (aq (aq (wpAny_loadPart hx (aq (W.Looks.here (s:={ s with toks:=s.toks+1 }) (W.looks_clsIn X hc) ?_))))));rw[hd'];refine aB (a:=some dx) (aq (aB (aq ?_)));refine wpAny_nsSet1 (s:={ s with toks:=s.toks+1 }) I.ns λh' hn2 hs2=>?_;obtain⟨oD,esD,epD,hoD,hdD,hcD⟩:=hn2.count (rM name v hw);refine aq (wpAny_lookBehind hoD (by rw[hdD];exact pastItsLine_dict (bQ hcD (by rw[aH];omega))) ?_);exact aB (h _ ⟨(hs2.2 _ (c9 I.ne)).trans I.obj,hn2,I.ne⟩ hs2)
theorem OK(X:K.In s.heap)(hm:lh K C=true)
  (hi:cE K (.ref C) "__init__" = some (some (.ref f))) (hf:W.typeIn K (.ref f)=some (.type "function"))
  (h:ck (model prog w) (A.under (.builtin "type.__call__" ⟨.ref C::vs,kw⟩)) (.call (.ref f) ⟨.ref (s.heap.objs.size+1)::vs,kw⟩) (W.InitBack (s.heap.objs.size+1) R)
   { s with heap:=(s.heap.push dm).push (dM C s.heap.objs.size) }):
  ck (model prog w) A (.call (.ref C) ⟨vs,kw⟩) R s:=by
 obtain⟨hh,g,d,t,os⟩:=s;exact pb (lb X hm) (oq X hi) (λself=>W.bind_fn X self hf) (.inl rfl) h
theorem Nk(X:K.In s.heap)(hm:lh K C=true)
  (hi:cE K (.ref C) "__init__" = some (some (.builtin "object.__init__")))
  (hb:∀self,W.Looks (model prog w) s.heap (bindSpecial (.builtin "object.__init__") self) (.builtin "object.__init__", [self]))
  (h:ck (model prog w) (A.under (.builtin "type.__call__" ⟨[.ref C],[]⟩)) (.call (.builtin "object.__init__") ⟨[.ref (s.heap.objs.size+1)],[]⟩) (W.InitBack (s.heap.objs.size+1) R)
   { s with heap:=(s.heap.push dm).push (dM C s.heap.objs.size) }):
  ck (model prog w) A (.call (.ref C) ⟨[],[]⟩) R s:=by
 obtain⟨hh,g,d,t,os⟩:=s;exact pb (lb X hm) (oq X hi) hb (.inr ⟨rfl,rfl⟩) h
end
def y3(f:Str)(v:V):List (Str×V)->List (Str×V)
 |[]=>[(f,v)]
 |(g,x)::r=>if g=f then (g,v)::r else (g,x)::y3 f v r
theorem DI(f g:Str)(v:V):∀fs:List (Str×V),(y3 f v fs).lookup g=if g=f then some v else fs.lookup g
 |[]=>by
  show c7 g [(f,v)]=_;by_cases h:g=f
  ·have hb:(g==f)=true:=beq_iff_eq.mpr h;simp only[c7,hb,aj h]
  ·have hb:(g==f)=false:=beq_eq_false_iff_ne.mpr h;simp only[c7,hb,ao h]
 |(k,x)::r=>by
  have ih:=DI f g v r;rw[show y3 f v ((k,x)::r)=(if k=f then (k,v)::r else (k,x)::y3 f v r) from rfl];by_cases hk:k=f
  ·rw[aj hk];by_cases h:g=k
   ·have hb:(g==k)=true:=beq_iff_eq.mpr h;simp only[c7,hb,aj (h.trans hk)]
   ·have hb:(g==k)=false:=beq_eq_false_iff_ne.mpr h;simp only[c7,hb,ao (λe:g=f=>h (e.trans hk.symm))]
  ·rw[ao hk];by_cases h:g=k
   ·have hb:(g==k)=true:=beq_iff_eq.mpr h;simp only[c7,hb,ao (λe:g=f=>hk (h.symm.trans e))]
   ·have hb:(g==k)=false:=beq_eq_false_iff_ne.mpr h;simp only[c7,hb];exact ih
theorem CV(f:Str)(v:V):∀fs:List (Str×V),f∈(y3 f v fs).map (·.1)/\∀g,g∈fs.map (·.1)->g∈(y3 f v fs).map (·.1)
 |[]=>⟨by simp[y3],λg h=>by simp at h⟩
 |(k,x)::r=>by
  obtain⟨i1,i2⟩:=CV f v r;rw[show y3 f v ((k,x)::r)=(if k=f then (k,v)::r else (k,x)::y3 f v r) from rfl];by_cases hk:k=f
  ·rw[aj hk];subst hk;exact⟨by simp,λg h=>by simpa using h⟩
  ·rw[ao hk];refine⟨?_,λg h=>?_⟩
   ·rw[az];exact bo _ i1
   ·rw[az]at h ⊢;rcases aN.mp h with e|e
    ·exact aN.mpr (.inl e)
    ·exact bo _ (i2 g e)
theorem DJ(f:Str)(v:V):∀fs:List (Str×V),(y3 f v fs).length<=fs.length+1
 |[]=>by simp[y3]
 |(k,x)::r=>by
  have ih:=DJ f v r;rw[show y3 f v ((k,x)::r)=(if k=f then (k,v)::r else (k,x)::y3 f v r) from rfl];by_cases hk:k=f
  ·rw[aj hk,aH,aH];omega
  ·rw[ao hk,aH,aH];omega
theorem Ai.some_of(r:Ai (some v) o):∃u,o=some u/\RelV v u:=by
 cases o with
 |none=>exact(show False from r).elim
 |some u=>exact⟨u,rfl,r⟩
theorem Ai.none_of(r:Ai none o):o=none:=by
 cases o with
 |none=>rfl
 |some u=>exact(show False from r).elim
theorem Nl(r:RelV v u):W.handedIn u=true:=by
 cases v with
 |non=>cases (show u=Value.none from r);rfl
 |bl b=>cases (show u=Value.bool b from r);rfl
 |int i=>obtain⟨t,e⟩:=(show ∃t,u=Value.int i t from r);cases e;rfl
 |str x=>obtain⟨t,e⟩:=(show ∃t,u=Value.str x t from r);cases e;rfl
 |byt b=>obtain⟨t,e⟩:=(show ∃t,u=Value.bytes b t from r);cases e;rfl
 |flt b=>obtain⟨t,e⟩:=(show ∃t,u=Value.float b t from r);cases e;rfl
 |ref a=>cases (show u=Value.ref a from r);rfl
 |ty n=>cases (show u=Value.type n from r);rfl
section
variable{P:aV}{w:aL}{H H':Hp}{h h':Heap}{a C dx:Addr}{fs fs':List (Str×V)}
theorem EE(hok:HOk P w H h)(e:H a=some (.ins C dx fs)):∃mA,KN h a dx C mA/\(∀f,Ai (fs.lookup f) (mA f))/\kD mA (fs.map (·.1))/\fs.length<=1000/\H dx=some (.own a):=by obtain⟨d,z,ne,ob,mA,n,r,q⟩:=(show tY P w H h a (.ins C dx fs) from hok a _ e);exact⟨mA,⟨ob,n,ne⟩,r,q,z,d⟩
end
structure Cls(K:ay)(C:Addr):Prop where
 pg:jj K C Str.empty=true
 hd:kL K C=true
 po:o9 K C=true
 sa:cE K (.ref C) "__setattr__" = some (some (.builtin "object.__setattr__"))
theorem Cls.get{K:ay}(c:Cls K C)(f:Str):jj K C f=true:=c.pg
def yb(K:ay)(C:Addr)(f:Str):Prop:=cE K (.ref C) f=some none
theorem yb.taker{K:ay}(n:yb K C f):lg K C f=some none:=by unfold lg;rw[show cE K (.ref C) f=some none from n];rfl
structure Meth(K:ay)(C:Addr)(m:Str)(f:Addr):Prop where
 at_:cE K (.ref C) m=some (some (.ref f))
 fn:ju K (.ref f)=true
 kp:du K (.ref f)=true
section
variable{X:Cx}{pins:cH}{σ:St}{H:Hp}{s:ag}{a C dx:Addr}{fs:List (Str×V)}{f:Str}{v:V}{A:aS}{E:ae->ag->Prop}
theorem KO(I:Inv X pins σ H s)(e:H a=some (.ins C dx fs))(c:Cls X.K C)(n:yb X.K C f)(l:fs.lookup f=some v)
  (h:∀u s',Inv X pins σ H s'->RelV v u->Q u s'):ai (model X.prog X.w) A (getAttr (.ref a) f b) Q E s:=by
 obtain⟨mA,O,r,_,_,_⟩:=EE I.hok e;obtain⟨u,hu,ru⟩:=Ai.some_of (v:=v) (o:=mA f) (by rw[<-l];exact r f);exact get_map I.kIn O (c.get f) c.hd n hu (Nl ru) (h u _ (I.tok _) ru)
theorem ET(I:Inv X pins σ H s)(e:H a=some (.ins C dx fs))(c:Cls X.K C)(k:Meth X.K C m g)(l:fs.lookup m=none)
  (h:Q (.ref g,[.ref a]) s):ai (model X.prog X.w) A (getMethod (.ref a) m pl) Q E s:=by
 obtain⟨mA,O,r,_,_,_⟩:=EE I.hok e;have hn:mA m=none:=Ai.none_of (by rw[<-l];exact r m);exact OJ I.kIn O (c.get m) k.at_ k.fn hn h
theorem KP(I:Inv X pins σ H s)(e:H a=some (.ins C dx fs))(c:Cls X.K C)(n:yb X.K C f)(hl:fs.length<1000)(ry:RelV y u)
  (h:∀s',Inv X pins σ (upd H a (.ins C dx (y3 f y fs))) s'->Q () s'):ai (model X.prog X.w) A (setAttr (.ref a) f u) Q E s:=by
 obtain⟨mA,O,r,wi,_,ho⟩:=EE I.hok e;have hz:(fs.map (·.1)).length<=aJ:=by rw[ah,bR];omega
 refine RN I.kIn O c.sa c.po n.taker c.hd wi hz λh' O' sb=>h _ ?_;have hd:∃o,h'.get? dx=some o:=let ⟨o,_,_,e',_⟩:=O'.ns;⟨o,e'⟩;refine I.write (x:=a) (e:=dx) (by rw[e];exact True.intro) (.inr ho) (λb q hb z=>(sb.2 b hb).trans z) hd ?_;refine⟨by rw[su O.ne];exact ho,?_,O.ne,O'.obj,_,O'.ns,λg=>?_,λg hg=>?_⟩
 ·have:=DJ f y fs;omega
 ·show Ai ((y3 f y fs).lookup g) (if g=f then some u else mA g);rw[DI];by_cases q:g=f
  ·rw[aj q,aj q];exact ry
  ·rw[ao q,ao q];exact r g
 ·by_cases q:g=f
  ·rw[q];exact(CV f y fs).1
  ·refine(CV f y fs).2 g (wi g λz=>hg ?_);show (if g=f then some u else mA g)=none;rw[ao q];exact z
theorem Inv.made(I:Inv X pins σ H s):Inv X pins σ (upd (upd H s.heap.objs.size (.own (s.heap.objs.size+1))) (s.heap.objs.size+1) (.ins C s.heap.objs.size []))
  { s with heap:=(s.heap.push dm).push (dM C s.heap.objs.size) }:=by
 have e1:(s.heap.push dm).get? s.heap.objs.size=some dm:=bF s.heap rfl;have e2:((s.heap.push dm).push (dM C s.heap.objs.size)).get? (s.heap.objs.size+1)=some (dM C s.heap.objs.size):=by
  have:=bF (s.heap.push dm) (o:=dM C s.heap.objs.size) rfl
  rwa [dF]at this
 have e3:(s.heap.push dm).Ns s.heap.objs.size (λ_=>none):=⟨dm,#[],_,e1,rfl,(λe he=>au he (by simp)),λ_=>rfl⟩;have I1:=I.laid (a:=s.heap.objs.size) (o:=.own (s.heap.objs.size+1)) (h':=s.heap.push dm) (t':=s.toks) (λb u q=>aM _ q) (aI _) ⟨_,e1⟩;refine I1.laid (a:=s.heap.objs.size+1) (o:=.ins C s.heap.objs.size []) (t':=s.toks) (λb u q=>aM _ q) (kE (dF _ _)) ?_;have ne:s.heap.objs.size≠s.heap.objs.size+1:=bb (eh _);refine⟨by rw[su ne,sr],cu _,ne,e2,λ_=>none,(Heap.Ns1.of_empty e3).at λo q=>aM _ q,λ_=>True.intro,λy hy=>au rfl hy⟩
theorem RO(hb:dH e f env (eval e env)=eval e env)
  (h:ai (model prog w) A (eval e env) (λo s₁=>ai (model prog w) A (getAttr o f true) Q E s₁) E s):ai (model prog w) A (eval (.Attribute e f pos) env) Q E s:=
 Attribute_any_ h (by rw[arm_eval_Attribute,hb])
end
def tFld(K:ay)(ta:TE)(f:Str):TE:=λσ H Q=>ta σ H λx H1=>∃a C dx fs v,x=.ref a/\H1 a=some (.ins C dx fs)/\Cls K C/\yb K C f/\fs.lookup f=some v/\Q v H1
def Zf(K:ay)(ta tv:TE)(f:Str):TS:=λD σ H=>tv σ H λy H1=>ta σ H1 λx H2=>∃a C dx fs,x=.ref a/\H2 a=some (.ins C dx fs)/\Cls K C/\yb K C f/\fs.length<1000/\
 D.nx σ (upd H2 a (.ins C dx (y3 f y fs)))
section
variable{X:Cx}{o e value:Expr}{f:Str}{pos pos' tpos:Pos}{ta tv:TE}
theorem Vr(he:PE X e ta)(hb:dH e f X.env (eval e X.env)=eval e X.env):PE X (.Attribute e f pos) (tFld X.K ta f):=by intro pins s σ H Q I h;refine RO hb (thn (he pins s σ H _ I h) λu s1 zz=>?_);obtain⟨x,H1,I1,rx,a,C,dx,fs,v,ex,ea,c,n,l,q⟩:=zz;subst ex;obtain rfl:u=Value.ref a:=rx;exact KO I1 ea c n l λu' s2 I2 ru=>⟨v,H1,I2,ru,q⟩
theorem Vs(ha:PE X o ta)(hv:PE X value tv)(hs:dt value (some (.Attribute o f pos')) pos.line X.env=pure false):PS X (.Assign [.Attribute o f pos'] value pos) (Zf X.K ta tv f):=by intro pins s σ H D I h;refine plainObj_wpAny_Assign_Attribute (thn (hv pins s σ H _ I h) λu s1 ⟨y,H1,I1,ry,q⟩=>thn (ha pins s1 σ H1 _ I1 q) λov s2 zz=>?_) hs;obtain⟨x,H2,I2,rx,a,C,dx,fs,ex,ea,c,n,l,q2⟩:=zz;subst ex;obtain rfl:ov=Value.ref a:=rx;exact KP I2 ea c n l ry λs3 I3=>⟨σ,_,I3,q2⟩
end
section
variable{X:Cx}{pins:cH}{σ:St}{H:Hp}{s:ag}{A:aS}{E:ae->ag->Prop}{Q:ae->ag->Prop}{c:ae}{b:Bool}
inductive Ex(K:ay) (H:Hp):V->ae->Prop where
 |non:Ex K H .non (.type "NoneType")
 |bl (x:Bool):Ex K H (.bl x) (.type "bool")
 |int (i:Int):Ex K H (.int i) (.type "int")
 |str (x:Str):Ex K H (.str x) (.type "str")
 |flt (x:UInt64):Ex K H (.flt x) (.type "float")
 |lst {a:Addr} {xs:bI} (e:H a=some (.lst xs)):Ex K H (.ref a) (.type "list")
 |frz {a:Addr} {o:Obj} {xs:bI} (e:H a=some (.frz o (.lst xs))):Ex K H (.ref a) (.type "list")
 |tup {a:Addr} {xs:bI} (e:H a=some (.tup xs)):Ex K H (.ref a) (.type "tuple")
 |dK {a:Addr} {kvs:List (Key×V)} (e:H a=some (.dK kvs)):Ex K H (.ref a) (.type "dict")
 |dT {a:Addr} {kvs:List (List Key×V)} (e:H a=some (.dT kvs)):Ex K H (.ref a) (.type "dict")
 |ins {a C dx:Addr} {fs:List (Str×V)} (e:H a=some (.ins C dx fs)) (cl:Cls K C) (ha:cE K (.ref C) "__class__" = some (some (.builtin "object.__class__")))
   (hn:pd K (.builtin "object.__class__") "__get__" = some (some (.builtin "getset_descriptor.__get__"))) (htk:W.takesIn K (.builtin "object.__class__")=some true)
   (hm:W.mroIn K C (.type "object")=some true):Ex K H (.ref a) (.ref C)
theorem xV(I:Inv X pins σ H s)(rx:RelV x u)(ty:Ex X.K H x t)(e:cY X.K t c=some b)(h:∀tk,Q (.bool b) { s with toks:=tk }):
  ai (model X.prog X.w) A (call (.builtin "isinstance") [u,c]) Q E s:=by
 cases ty with
 |non=>cases (show u=Value.none from rx);exact cD W.kitx_none I.kIn True.intro e (λz=>nomatch z) h
 |bl y=>cases (show u=Value.bool y from rx);exact cD W.kitx_bool I.kIn True.intro e (λz=>nomatch z) h
 |int i=>obtain⟨t,q⟩:=(show ∃t,u=Value.int i t from rx);cases q;exact cD W.kitx_int I.kIn True.intro e (λz=>nomatch z) h
 |str y=>obtain⟨t,q⟩:=(show ∃t,u=Value.str y t from rx);cases q;exact cD W.kitx_str I.kIn True.intro e (λz=>nomatch z) h
 |flt y=>obtain⟨t,q⟩:=(show ∃t,u=Value.float y t from rx);cases q;exact cD W.kitx_float I.kIn True.intro e (λz=>nomatch z) h
 |@lst a xs ea=>cases (show u=Value.ref a from rx);obtain⟨_,_,n,_,h1⟩:=(show tY X.prog X.w H s.heap a (.lst xs) from I.hok a _ ea);exact cD kM I.kIn ⟨_,h1,rfl⟩ e (λz=>nomatch z) h
 |@frz a ob xs ea=>cases (show u=Value.ref a from rx);obtain⟨_,_,_,n,_,h1⟩:=(show tY X.prog X.w H s.heap a (.frz ob (.lst xs)) from I.hok a _ ea);exact cD kM I.kIn ⟨_,h1,rfl⟩ e (λz=>nomatch z) h
 |@tup a xs ea=>cases (show u=Value.ref a from rx);obtain⟨_,_,_,p⟩:=(show tY X.prog X.w H s.heap a (.tup xs) from I.hok a _ ea);obtain⟨o,h1,h2,_⟩:=p;exact cD oY I.kIn ⟨o,h1,h2⟩ e (λz=>nomatch z) h
 |@dK a kvs ea=>cases (show u=Value.ref a from rx);obtain⟨_,_,vs,_,p⟩:=(show tY X.prog X.w H s.heap a (.dK kvs) from I.hok a _ ea);obtain⟨o,es,ep,h1,h2,_⟩:=p;exact cD kN I.kIn ⟨o,h1,h2.1⟩ e (λz=>nomatch z) h
 |@dT a kvs ea=>cases (show u=Value.ref a from rx);obtain⟨_,_,xs,_,o,es,ep,h1,h2,_⟩:=(show tY X.prog X.w H s.heap a (.dT kvs) from I.hok a _ ea);exact cD kN I.kIn ⟨o,h1,h2.1⟩ e (λz=>nomatch z) h
 |@ins a C dx fs ea cl ha hn htk hm=>cases (show u=Value.ref a from rx);obtain⟨mA,O,_⟩:=EE I.hok ea;obtain⟨od,J,_⟩:=O.look;exact cD (W.kitx_own (cl.get _) cl.hd ha hn htk hm) I.kIn J e (λz=>nomatch z) h
end
structure uy(k:Nat)(A:aS):Prop where
 hd:A.handled=none
 dp:A.depth+3 * k+5<recursionLimit
 un:A.units+16 * k+200<cLine
theorem uy.mono(r:uy k A)(h:j<=k):uy j A:=⟨r.hd,by have:=r.dp;omega,by have:=r.un;omega⟩
theorem uy.deeper(r:uy (k+1) A)(env:Env):uy k (A.deeper env):=
 ⟨r.hd,by have:=r.dp;show A.depth+1+3 * k+5<_;omega,by have:=r.un;show A.units+3+16 * k+200<_;omega⟩
theorem KQ{A:aS}:(A.under (.builtin "type.__call__" ⟨.ref C::us,kw⟩)).depth=A.depth+1:=by
 first|rfl|simp[kF,Code.weight,Code.isCreation,Code.isGuard,Code.isCaller,pe,kG,guardIds]
theorem KR{A:aS}:(A.under (.builtin "type.__call__" ⟨.ref C::us,kw⟩)).units=A.units+1:=by
 first|rfl|simp[kF,Code.cUnits,pe,kG]
theorem uy.make(r:uy (k+1) A)(C:Addr)(us:List ae)(kw:List (Str×ae)):uy k (A.under (.builtin "type.__call__" ⟨.ref C::us,kw⟩)):=
 ⟨r.hd,by have:=r.dp;rw[KQ];omega,by have:=r.un;rw[KR];omega⟩
theorem uy.depth(r:uy k A):A.depth<recursionLimit:=by have:=r.dp;omega
theorem uy.units(r:uy k A):A.units+64<cLine:=by have:=r.un;omega
def Jl:TA:=λ_ H Q=>Q [] H
def EU(ta:TE)(tr:TA):TA:=λσ H Q=>ta σ H λx H1=>tr σ H1 λxs H2=>Q (x::xs) H2
section
variable{X:Cx}{e:Expr}{es:List Expr}{te:TE}{t:TA}{pos:Pos}
theorem yc:PA X [] Jl:=λ_ _ _ _ H Q I h=>gQ ⟨[],H,I,.nil,h⟩
theorem uD(ha:PE X e te)(hr:PA X es t)(hs:aA (e::es) X.env=(false,eval e X.env)::aA es X.env:=by rfl):PA X (e::es) (EU te t):=by intro pos pins s σ H Q I h;rw[hs];show ai _ _ (spliced ((false,eval e X.env)::bD pos (aA es X.env))) _ _ s;refine eX (thn (ha pins s σ H _ I h) λu s1 zz=>?_);obtain⟨x,H1,I1,r1,q1⟩:=zz;exact thn (hr pos pins s1 σ H1 _ I1 q1) λus s2 ⟨xs,H2,I2,r2,q2⟩=>⟨x::xs,H2,I2,.cons r1 r2,q2⟩
def tTup(t:TA):TE:=λσ H Q=>t σ H λxs H1=>xs.length<=aJ/\∀p,H1 p=none->Q (.ref p) (upd H1 p (.tup xs))
def Zg(t:TA):TE:=λσ H Q=>t σ H λxs H1=>xs.length<=aJ/\∀p,H1 p=none->Q (.ref p) (upd H1 p (.lst xs))
theorem Vt{x1}(h:PA X es t):PE X (.Tuple es x1 pos) (tTup t):=by intro pins s σ H Q I hq;refine wpAny_Tuple_spliced (thn (h pos pins s σ H _ I hq) λus s1 ⟨xs,H1,I1,r,z,q⟩=>⟨by rw[<-r.length];exact z,?_⟩);have hf:H1 s1.heap.objs.size=none:=I1.hok.fresh (aI _);refine⟨.ref s1.heap.objs.size,upd H1 s1.heap.objs.size (.tup xs),I1.laid (t':=s1.toks) (λb u e=>aM _ e) (aI _) ?_,rfl,q _ hf⟩;exact⟨z,us,r,⟨_,bF _ rfl,rfl,_,rfl⟩⟩
theorem OL(h:PA X es t):PE X (.List es pos) (Zg t):=by intro pins s σ H Q I hq;refine wpAny_List_spliced (thn (h pos pins s σ H _ I hq) λus s1 ⟨xs,H1,I1,r,z,q⟩=>⟨by rw[<-r.length];exact z,?_⟩);have hf:H1 s1.heap.objs.size=none:=I1.hok.fresh (aI _);refine⟨.ref s1.heap.objs.size,upd H1 s1.heap.objs.size (.lst xs),I1.laid (t':=s1.toks) (λb u e=>aM _ e) (aI _) ?_,rfl,q _ hf⟩;exact⟨z,us,0,r,bF _ rfl⟩
end
abbrev Sp:=bI->Hp->VK->XK->Prop
abbrev CXT:=List Env->Hp->ag->XK->ae->ag->Prop
structure KU(P:aV)(w:aL)(K:ay)(mg:Str->Option ae)(base:Heap)(A:aS)(outer:List Env)(s:ag)(H:Hp):Prop where
 frames:A.frames=some outer
 mod:Mod K mg base
 bs:∀b o,base.get? b=some o->s.heap.get? b=some o/\H b=none
 bsz:base.objs.size<=s.heap.objs.size
 funs:s.heap.FunFrames base outer
 frf:∀b∈frs outer,H b=none
 hok:HOk P w H s.heap
 bare:dN s.gens
def CE(outer:List Env)(P:aV)(w:aL)(H:Hp)(s:ag)(Q:VK)(u:ae)(s':ag):Prop:=
 ∃v H',s'.os=s.os/\dN s'.gens/\Un (frs outer) [] H H' s.heap s'.heap/\HOk P w H' s'.heap/\RelV v u/\Q v H'
def CR(CX:CXT)(outer:List Env)(P:aV)(w:aL)(H:Hp)(s:ag)(Q:VK)(E:XK)(r:gb)(s':ag):Prop:=
 match r with
 |.ok (.ret u)=>CE outer P w H s Q u s'
 |.ok _=>False
 |.error e=>CX outer H s E e s'
structure wx(P:aV)(w:aL)(K:ay)(mg:Str->Option ae)(base:Heap)(CX:CXT)(k:Nat)(f:Addr)(fd:cb)(ps:aF)(sp:Sp):Prop where
 len:∀vs H Q E,sp vs H Q E->vs.length=ps.length
 run:∀(A:aS) (outer:List Env) (s:ag) (H:Hp) (args:Args) (us:List ae) (vs:bI) (Q:VK) (E:XK),uy k A->KU P w K mg base A outer s H->f9 s fd args (ps.zip us)->Vals vs us->sp vs H Q E->
  ck (model P w) A (.call (.ref f) args) (CR CX outer P w H s Q E) s
theorem wx.mono{K:ay}(F:wx P w K mg base CX j f fd ps sp)(h:j<=k):
  wx P w K mg base CX k f fd ps sp:=⟨F.len,λA outer s H args us vs Q E hr=>F.run A outer s H args us vs Q E (hr.mono h)⟩
theorem wx.imp{K:ay}(F:wx P w K mg base CX k f fd ps sp)
  (h:∀vs H Q E,sp' vs H Q E->sp vs H Q E):wx P w K mg base CX k f fd ps sp':=
 ⟨λvs H Q E q=>F.len vs H Q E (h _ _ _ _ q),λA outer s H args us vs Q E hr he hb hv hs=>F.run A outer s H args us vs Q E hr he hb hv (h _ _ _ _ hs)⟩
theorem KU.make{K:ay}(e:KU P w K mg base A outer s H)(C:Addr)(us:List ae)(kw:List (Str×ae)):
  KU P w K mg base (A.under (.builtin "type.__call__" ⟨.ref C::us,kw⟩)) outer s H:=⟨by first|exact e.frames|(simpa [kF,Code.envs,kG,pushEnvs]using e.frames),e.mod,e.bs,e.bsz,e.funs,e.frf,e.hok,e.bare⟩
section
variable{X:Cx}{pins:cH}{σ:St}{H:Hp}{s s':ag}
theorem Inv.env0(I:Inv X pins σ H s):KU X.prog X.w X.K X.mg X.base X.A X.stack s H:=
 ⟨I.ok.frames,I.ok.mod,I.bs,bQ I.ok.bsz I.sz,I.stack,I.stkFree,I.hok,I.bare⟩
theorem Inv.after(I:Inv X pins σ H s)(h:CE X.stack X.prog X.w H s Q u s'):EP X pins σ Q u s':=by obtain⟨v,H',os,bare,un,hok,r,q⟩:=h;obtain⟨hh,g,d,t,os'⟩:=s';obtain rfl:os'=s.os:=os;exact⟨v,H',I.call (h':=hh) (g':=g) (d':=d) (t':=t) (ch:=[]) un hok bare (λb z=>au z (by simp)),r,q⟩
end
def Al(sp:Sp)(dvs:bI)(E:XK)(t:TA):TE:=λσ H Q=>t σ H λvs H1=>sp (vs++dvs) H1 Q E
def Uz(C:Addr)(sp:Sp)(dvs:bI)(E:XK)(t:TA):TE:=λσ H Q=>t σ H λvs H1=>∀x dx,H1 x=none->H1 dx=none->dx≠x->
 sp (.ref x::(vs++dvs)) (upd (upd H1 dx (.own x)) x (.ins C dx [])) (λv H2=>v=.non/\Q (.ref x) H2) E
def Binds(K:ay)(fd:cb)(ps:aF)(ds:List ae):Prop:=
 ∀(s:ag) (us:List ae),K.In s.heap->(us++ds).length=ps.length->f9 s fd ⟨us,[]⟩ (ps.zip (us++ds))
theorem Binds.all{K:ay}{ps:aF}(h:∀us:List ae,us.length=ps.length->bindArgs fd ⟨us,[]⟩=pure (ps.zip us)):Binds K fd ps []:=λs us _ hl=>by rw[bz]at hl ⊢;exact .of_eq (h us hl)
def Passes(CX:CXT)(X:Cx)(E:XK):Prop:=∀(pins:cH) (σ:St) (H:Hp) (s:ag) (e:ae) (s':ag),Inv X pins σ H s->CX X.stack H s E e s'->X.xe e s'
section
variable{X:Cx}{CX:CXT}{k:Nat}{f C:Addr}{fd:cb}{ps:aF}{sp:Sp}{dvs:bI}{ds:List ae}{E:XK}{x m:Str}{p pos apos:Pos}{e o:Expr}{es:List Expr}{ta:TE}{t:TA}
theorem HZ(F:wx X.prog X.w X.K X.mg X.base CX k f fd ps sp)(hr:uy k X.A)(hb:Binds X.K fd ps ds)(hd:Vals dvs ds)(hx:Passes CX X E)
  (I:Inv X pins σ H s) (r:Vals vs us) (h:sp (vs++dvs) H Q E):ai (model X.prog X.w) X.A (call (.ref f) us) (EP X pins σ Q) X.xe s:=by
 have r2:Vals (vs++dvs) (us++ds):=r.append hd;have hl:(us++ds).length=ps.length:=by rw[<-r2.length];exact F.len _ _ _ _ h
 refine jk (fY (F.run X.A X.stack s H ⟨us,[]⟩ (us++ds) (vs++dvs) Q E hr I.env0 (hb s us I.kIn hl) r2 h) λr s' hq=>?_);cases r with
 |error e=>exact hx pins σ H s e s' I hq
 |ok fl=>
  cases fl with
  |ret u=>exact I.after hq
  |next=>exact cO hq
  |brk=>exact cO hq
  |cont=>exact cO hq
theorem B3(F:wx X.prog X.w X.K X.mg X.base CX k f fd ps sp)(hr:uy k X.A)(hg:Gl X x)(hm:X.mg x=some (.ref f))(hk:du X.K (.ref f)=true)(hb:Binds X.K fd ps ds)(hd:Vals dvs ds)(hx:Passes CX X E)
  (ha:PA X (e::es) t) (hdb:(x==("__debug__" : Str))=false:=by decide) (he:aA (e::es) X.env=(false,eval e X.env)::aA es X.env:=by rfl) (hpl:(bD pos (aA es X.env)).any (·.1)=false:=by rfl):
  PE X (.Call (.Name x p) (e::es) [] pos) (Al sp dvs E t):=by
 intro pins s σ H Q I h;refine dZ (B2 I hg hm ?_ hdb);refine kH (h₀:=X.base) I.ok.mod.kin hk (thn (ha pos pins s σ H _ I h) λus s1 ⟨vs,H1,I1,r,q⟩=>⟨I1.kIn,?_⟩) he hpl;exact HZ F hr hb hd hx I1 r q
theorem OM(F:wx X.prog X.w X.K X.mg X.base CX k f fd ps sp)(hr:uy k X.A)(hg:Gl X x)(hm:X.mg x=some (.ref f))(hk:du X.K (.ref f)=true)(hb:Binds X.K fd ps ds)(hd:Vals dvs ds)(hx:Passes CX X E)
  (hdb:(x==("__debug__" : Str))=false:=by decide):PE X (.Call (.Name x p) [] [] pos) (Al sp dvs E Jl):=by
 intro pins s σ H Q I h;refine dZ (B2 I hg hm ?_ hdb);exact ku I.kIn hk (HZ (us:=[]) F hr hb hd hx I .nil h)
structure Mk(K:ay)(C f:Addr):Prop where
 makes:lh K C=true
 init:cE K (.ref C) "__init__" = some (some (.ref f))
 fn:ju K (.ref f)=true
 kp:du K (.ref C)=true
theorem ON(M:Mk X.K C f)(F:wx X.prog X.w X.K X.mg X.base CX k f fd ps sp)(hr:uy (k+1) X.A)(hb:Binds X.K fd ps ds)(hd:Vals dvs ds)
  (hx:Passes CX X E) (I:Inv X pins σ H s) (r:Vals vs us)
  (h:∀x dx,H x=none->H dx=none->dx≠x->sp (.ref x::(vs++dvs)) (upd (upd H dx (.own x)) x (.ins C dx [])) (λv H2=>v=.non/\Q (.ref x) H2) E):
  ai (model X.prog X.w) X.A (call (.ref C) us) (EP X pins σ Q) X.xe s:=by
 have hq:=h (s.heap.objs.size+1) s.heap.objs.size (I.hok.fresh (fw _)) (I.hok.fresh (aI _)) (bb (eh _));have I2:=Inv.made (C:=C) I;have r2:Vals (V.ref (s.heap.objs.size+1)::(vs++dvs)) (Value.ref (s.heap.objs.size+1)::(us++ds)):=.cons rfl (r.append hd);have hl:(Value.ref (s.heap.objs.size+1)::us++ds).length=ps.length:=by have e:=r2.length;rw[F.len _ _ _ _ hq]at e;exact e.symm
 refine jk (OK (f:=f) I.kIn M.makes M.init (beq_iff_eq.mp M.fn) (fY (F.run _ X.stack _ _ ⟨Value.ref (s.heap.objs.size+1)::us,[]⟩ (Value.ref (s.heap.objs.size+1)::(us++ds)) _ _ E (hr.make C us [])
  (I2.env0.make C us []) (hb _ (Value.ref (s.heap.objs.size+1)::us) I2.kIn hl) r2 hq) λr s' hq'=>?_))
 cases r with
 |error e=>exact hx pins σ _ _ e s' I2 hq'
 |ok fl=>
  cases fl with
  |ret u=>obtain⟨v,H',I3,rv,ev,q3⟩:=I2.after hq';subst ev;exact⟨rv,⟨V.ref (s.heap.objs.size+1),H',I3,rfl,q3⟩⟩
  |next=>exact cO hq'
  |brk=>exact cO hq'
  |cont=>exact cO hq'
theorem RP(M:Mk X.K C f)(F:wx X.prog X.w X.K X.mg X.base CX k f fd ps sp)(hr:uy (k+1) X.A)(hg:Gl X x)(hm:X.mg x=some (.ref C))(hb:Binds X.K fd ps ds)(hd:Vals dvs ds)(hx:Passes CX X E)
  (ha:PA X (e::es) t) (hdb:(x==("__debug__" : Str))=false:=by decide) (he:aA (e::es) X.env=(false,eval e X.env)::aA es X.env:=by rfl) (hpl:(bD pos (aA es X.env)).any (·.1)=false:=by rfl):
  PE X (.Call (.Name x p) (e::es) [] pos) (Uz C sp dvs E t):=by
 intro pins s σ H Q I h;refine dZ (B2 I hg hm ?_ hdb);refine kH (h₀:=X.base) I.ok.mod.kin M.kp (thn (ha pos pins s σ H _ I h) λus s1 ⟨vs,H1,I1,r,q⟩=>⟨I1.kIn,?_⟩) he hpl;exact ON M F hr hb hd hx I1 r q
end
structure uu(N P:aF)(sc:cR):Prop where
 kind:sc.kind=.function
 co:sc.isCoroutine=false
 gen:sc.isGenerator=false
 nd:N.Nodup
 pre:N.take P.length=P
 par:∀x∈P,sc.names.lookup x=some .local\/sc.names.lookup x=some .cell
 nofree:∀y∈sc.names,y.2≠.free
theorem GN{kindOf:Str->Option dv}:∀{binds:List (Str×ae)} {m:Str->Option ae},(∀v,(x,v)∉binds)->bindL kindOf binds m x=m x
 |[],_,_=>rfl
 |(n,v)::r,m,h=>by
  unfold bindL;rw[GN λw hw=>h w (bo _ hw)];split
  ·have:x≠n:=by rintro rfl;exact h v aY
   simp[this]
  ·rfl
theorem GO{kindOf:Str->Option dv}:∀{binds:List (Str×ae)} {m:Str->Option ae},(∀v,(x,v)∉binds)->bindC kindOf binds m x=m x
 |[],_,_=>rfl
 |(n,v)::r,m,h=>by
  unfold bindC;rw[GO λw hw=>h w (bo _ hw)];split
  ·rfl
  ·have:x≠n:=by rintro rfl;exact h v aY
   simp[this]
theorem GP{kindOf:Str->Option dv}:∀{P:aF} {vs:List ae} {i:Nat} {m:Str->Option ae},P.Nodup->P[i]?=some x->vs[i]?=some v->kindOf x=some .local->
  bindL kindOf (P.zip vs) m x=some v
 |[],_,_,_,_,h,_,_=>by simp at h
 |_::_,[],_,_,_,_,h,_=>by simp at h
 |p::P,w::vs,0,m,nd,h1,h2,hk=>by simp at h1 h2;subst h1;subst h2;show bindL kindOf ((p,w)::P.zip vs) m p=_;unfold bindL;rw[GN λv hv=>(cj.mp nd).1 (ja hv).1,aj hk];simp
 |p::P,w::vs,i+1,m,nd,h1,h2,hk=>by show bindL kindOf ((p,w)::P.zip vs) m x=_;unfold bindL;exact GP (i:=i) (cj.mp nd).2 (by simpa using h1) (by simpa using h2) hk
theorem GQ{kindOf:Str->Option dv}:∀{P:aF} {vs:List ae} {i:Nat} {m:Str->Option ae},P.Nodup->P[i]?=some x->vs[i]?=some v->kindOf x≠some .local->
  bindC kindOf (P.zip vs) m x=some v
 |[],_,_,_,_,h,_,_=>by simp at h
 |_::_,[],_,_,_,_,h,_=>by simp at h
 |p::P,w::vs,0,m,nd,h1,h2,hk=>by simp at h1 h2;subst h1;subst h2;show bindC kindOf ((p,w)::P.zip vs) m p=_;unfold bindC;rw[GO λv hv=>(cj.mp nd).1 (ja hv).1,ao hk];simp
 |p::P,w::vs,i+1,m,nd,h1,h2,hk=>by show bindC kindOf ((p,w)::P.zip vs) m x=_;unfold bindC;exact GQ (i:=i) (cj.mp nd).2 (by simpa using h1) (by simpa using h2) hk
def start(N:aF)(vs:bI):St:=vs.map some++eE (N.length - vs.length) none
def Jm(CX:CXT)(P:aV)(w:aL)(K:ay)(mg:Str->Option ae)(base:Heap)(N:aF)(qual:Str)(scope:cR)(f:Addr)(cd:ae)(A:aS)(outer:List Env)(s:ag)(H:Hp)(E:XK):Cx where
 prog:=P
 w:=w
 K:=K
 mg:=mg
 base:=base
 A:=A.deeper (envOfC qual scope s.heap.objs.size f cd)
 N:=N
 s₀:=s
 H₀:=H
 env:=envOfC qual scope s.heap.objs.size f cd
 outer:=outer
 stack:=envOfC qual scope s.heap.objs.size f cd::outer
 ex:=[]
 calm:=true
 fn:=λ_=>true
 pn:=[]
 xe:=λe s'=>ai (model P w) (A.deeper (envOfC qual scope s.heap.objs.size f cd)) (leaving (envOfC qual scope s.heap.objs.size f cd) e) (λ_ s''=>CX outer H s E e s'') (λe' s''=>CX outer H s E e' s'') s'
theorem Jn{sc:cR}(h:sc.names.lookup x=some .cell):∃c,(cellsFrom n sc.names []).lookup x=some c:=by have q:=nL sc.names n [] (.inl h);exact Option.isSome_iff_exists.mp q
theorem Nn{K:ay}{A:aS}{vs:bI}
  (S:uu N ps scope) (hd:A.handled=none) (e0:KU P w K mg base A outer s H) (hl:vs.length=ps.length) (r:Vals vs us)
  (x:InCallC s s.heap.objs.size (bindL (envOfC qual scope s.heap.objs.size f cd).kindOf (ps.zip us) λ_=>none) (cellsFrom (s.heap.objs.size+1) scope.names []) (bindC (envOfC qual scope s.heap.objs.size f cd).kindOf (ps.zip us) λ_=>none) s1):
  Inv (Jm CX P w K mg base N qual scope f cd A outer s H E) [] (start N vs) H s1:=by
 have hpl:ps.length<=N.length:=by have:=aU bY S.pre;rw[bw]at this;omega
 obtain⟨h1,tk,rfl,hk⟩:=x.done;have noA:∀b:Addr,b∉(Jm CX P w K mg base N qual scope f cd A outer s H E).ex:=λb z=>au (show b∈([]:List Addr) from z) (by simp);refine⟨⟨e0.mod,S.kind,rfl,rfl,aI _,λy z c h1 h2=>?_,λy hy=>?_,λy c _ h=>?_,λ_=>hd,Around.frames_deeper e0.frames,.inr ⟨rfl,rfl⟩,λb z=>au z (noA b),e0.bs,e0.bsz,λb _ _=>noA b,λb z=>au z (noA b),e0.funs,e0.frf⟩,
  rfl,e0.bare,Un.kept hk,⟨_,x.toInCall.ns,λi y v h1 h2 h3=>?_⟩,λy c h=>⟨_,x.cell y c h⟩,e0.hok.fresh (aI _),λy c h=>?_,λp hp=>au (show p∈([]:cH) from hp) (by simp),e0.hok.kept hk,?_⟩
 ·exact name_of_addr x.apart (gG h1) (gG h2)
 ·have hy:scope.names.lookup y=some .cell\/scope.names.lookup y=some .free:=hy;rcases hy with hy|hy
  ·exact Jn hy
  ·exact au rfl (S.nofree _ (gG hy))
 ·exact fq (x.above y c (gG h))
 ·have hi:i<vs.length:=by
   unfold start at h2;by_cases hi:i<vs.length
   ·exact hi
   ·rw[cI (by simpa using hi)]at h2;rw[fL]at h2;split at h2<;>cases h2
  have ha:vs[i]?=some v:=by
   unfold start at h2;rw[cW (by simpa using hi),bB]at h2;cases e:vs[i]? with
   |none=>rw[e]at h2;cases h2
   |some a=>rw[e]at h2;cases h2;rfl
  obtain⟨u,hu,rv⟩:=r.get ha;have hp:ps[i]?=some y:=by rw[<-S.pre,List.getElem?_take_of_lt (by omega)];exact h1
  have ndP:ps.Nodup:=by rw[<-S.pre];exact S.nd.sublist (iO _ _)
  refine⟨u,rv,?_⟩;rcases S.par y (cJ hp)with k|k
  ·exact .inl ⟨k,GP ndP hp hu k⟩
  ·obtain⟨c,e⟩:=Jn (n:=s.heap.objs.size+1) k;refine .inr ⟨.inl k,c,e,?_⟩;have q:=x.cell y c e;rw[GQ ndP hp hu (by show scope.names.lookup y≠_;rw[k];decide)]at q;exact q
 ·exact e0.hok.fresh (fq (x.above y c (gG h)))
 ·unfold start;show _=N.length;rw[aC,ah,cp];omega
theorem UA{K:ay}{kV:ae}
 (lk:K.lookup f=some ⟨oc,od,.func (dO name qual params body scope dV kV doc pm an cdv ct),osl⟩) (hcd:f6 K cdv qual=true) (S:uu N ps scope)
  (len:∀vs H Q E,sp vs H Q E->vs.length=ps.length)
  (hbody:∀(A:aS) (outer:List Env) (s:ag) (H:Hp) (vs:bI) (Q:VK) (E:XK),uy k (A.deeper (envOfC qual scope s.heap.objs.size f cdv))->sp vs H Q E->
   ∃t,PSs (Jm CX P w K mg base N qual scope f cdv A outer s H E) body t/\t { nx:=λ_ H'=>Q .non H',rt:=Q } (start N vs) H):
  wx P w K mg base CX (k+1) f (dO name qual params body scope dV kV doc pm an cdv ct) ps sp:=by
 refine⟨len,λA outer s H args us vs Q E hr e0 hb r hsp=>?_⟩;have hl:=len _ _ _ _ hsp;have KX:K.In s.heap:=e0.mod.kin.keeps λb o e=>(e0.bs b o e).1;have lim:s.heap.NoLimit:=e0.mod.nolimit.keeps λb o e=>(e0.bs b o e).1;have hkind:∀y∈ps.zip us,scope.names.lookup y.1=some .local\/(scope.names.lookup y.1=some .cell/\((cellsFrom (s.heap.objs.size+1) scope.names []).lookup y.1).isSome=true):=λ⟨n,v⟩ hy=>by
  rcases S.par n (ja hy).1 with q|q
  ·exact .inl q
  ·exact .inr ⟨q,nL _ _ _ (.inl q)⟩
 refine codeAny_call_function hr.depth (KX _ _ lk) rfl S.co S.gen rfl (W.codeRec_of KX hcd) (hb _ _ _ _ ?_);refine wpAny_newFunctionEnv_cells S.kind hkind λenv he s1 x=>?_;subst he;refine⟨lim.keeps x.toInCall.keep,codeAny_func ?_⟩;obtain⟨t,ht,hq⟩:=hbody A outer s H vs Q E (hr.deeper _) hsp;have I:Inv (Jm CX P w K mg base N qual scope f cdv A outer s H E) [] (start N vs) H s1:=Nn S hr.hd e0 hl r x;refine bZ (ht [] s1 (start N vs) H _ I hq) (λfl s' hs=>?_) λe s' hs=>hs;have fin:∀{σ':St} {H':Hp} {v:V} {u:ae},Inv (Jm CX P w K mg base N qual scope f cdv A outer s H E) [] σ' H' s'->RelV v u->Q v H'->CE outer P w H s Q u s':=
  λ{σ' H' v u} J rv q=>⟨v,H',J.os,J.bare,J.base,J.hok,rv,q⟩
 cases fl with
 |ret u=>obtain⟨v,σ',H',J,rv,q⟩:=hs;exact fin J rv q
 |next=>obtain⟨σ',H',J,q⟩:=hs;exact fin (v:=V.non) (u:=Value.none) J rfl q
 |brk=>obtain⟨_,_,_,q⟩:=hs;exact cO q
 |cont=>obtain⟨_,_,_,q⟩:=hs;exact cO q
section
variable{X:Cx}{x:Str}{p pos:Pos}{e:Expr}{es:List Expr}{t:TA}{id T:String}{r:bI->Hp->VK->Prop}
def tCB(r:bI->Hp->VK->Prop)(t:TA):TE:=λσ H Q=>t σ H λvs H1=>r vs H1 Q
theorem EV(hc:ux X (.builtin id) r)(hg:Gl X x)(hm:X.mg x=none)(hv:di x=some (.builtin id))(ha:PA X (e::es) t)(hn:x≠"__name__" := by decide)(hdb:(x==("__debug__" : Str))=false:=by decide)
  (he:aA (e::es) X.env=(false,eval e X.env)::aA es X.env:=by rfl) (hpl:(bD pos (aA es X.env)).any (·.1)=false:=by rfl):PE X (.Call (.Name x p) (e::es) [] pos) (tCB r t):=by
 intro pins s σ H Q I h;refine dZ (BE I hg hm hv ?_ hn hdb);exact callWith_builtin1 (thn (ha pos pins s σ H _ I h) λus s1 ⟨vs,H1,I1,r1,q1⟩=>hc pins s1 σ H1 vs us Q I1 r1 q1) he hpl
theorem Np(hc:ux X (.type T) r)(hg:Gl X x)(hm:X.mg x=none)(hv:di x=some (.type T))(ha:PA X (e::es) t)(hn:x≠"__name__" := by decide)(hdb:(x==("__debug__" : Str))=false:=by decide)
  (he:aA (e::es) X.env=(false,eval e X.env)::aA es X.env:=by rfl) (hpl:(bD pos (aA es X.env)).any (·.1)=false:=by rfl):PE X (.Call (.Name x p) (e::es) [] pos) (tCB r t):=by
 intro pins s σ H Q I h;refine dZ (BE I hg hm hv ?_ hn hdb);exact callWith_type1 (thn (ha pos pins s σ H _ I h) λus s1 ⟨vs,H1,I1,r1,q1⟩=>hc pins s1 σ H1 vs us Q I1 r1 q1) he hpl
end
end L2
namespace HT
open PySem PyProof.Rows
section
variable{prog:aV}{w:aL}{A:aS}{E:ae->ag->Prop}{s:ag}
theorem RQ{vs ws:List ae}(ht:dP s.heap t vs.toArray)(hb:dP s.heap b ws.toArray)(hv:vs≠[])
  (h1:ws=[]->Q (.ref t) s) (h2:ws≠[]->Q (.ref s.heap.objs.size) { s with heap:=s.heap.push { cls:=.type "tuple", data:=.seq (vs++ws).toArray } })
  (hsz:vs.length+ws.length<=aJ):ai (model prog w) A (cQ .Add (.ref t) (.ref b)) Q E s:=by
 obtain⟨⟨cls,dd,data,sl⟩,ho,hc,n,hd⟩:=id ht;obtain⟨⟨cls2,dd2,data2,sl2⟩,ho2,hc2,n2,hd2⟩:=id hb;simp only at hc hd hc2 hd2;subst hc hd hc2 hd2;have e:vs.toArray++ws.toArray=(vs++ws).toArray:=by simp
 by_cases hw:ws=[]
 ·exact concat_meets ⟨_,ho,rfl⟩ ⟨_,ho2,rfl⟩ nM oN nN nt (mX _ _)
   (tuple_addW1 t b vs.toArray ws.toArray n n2 dd dd2 sl sl2 (by simpa using hv) (by simp[hw])) ⟨ho,ho2,h1 hw⟩
 ·refine concat_meets ⟨_,ho,rfl⟩ ⟨_,ho2,rfl⟩ nM oN nN nt (mX _ _)
   (tuple_addW2 t b vs.toArray ws.toArray n n2 dd dd2 sl sl2 (by simpa using hv) (by simpa using hw) (by rw[bp,bp];exact hsz)) ⟨ho,ho2,?_⟩
  rw[e];exact h2 hw
def sIx(n d:Nat):Option Int->Nat
 |none=>d
 |some v=>if v<0 then (v+(n:Int)).toNat else min v.toNat n
theorem EW(n d:Nat):sIx n d none=d:=rfl
theorem B4(n d k:Nat):sIx n d (some (k:Int))=min k n:=by show (if (k:Int)<0 then ((k:Int)+(n:Int)).toNat else min (k:Int).toNat n)=min k n;rw[ao (by omega),iP]
theorem Vu(n d:Nat)(hd:d<=n)(o:Option Int):sIx n d o<=n:=by
 cases o with
 |none=>exact hd
 |some v=>
  show (if v<0 then (v+(n:Int)).toNat else min v.toNat n)<=n;by_cases hv:v<0
  ·rw[aj hv];omega
  ·rw[ao hv];exact Nat.min_le_right _ _
theorem L6(v:Int)(n d:Nat):(if v<0 then max (v+(n:Int)) 0 else min v (n:Int))=((sIx n d (some v):Nat):Int):=by
 show (if v<0 then max (v+(n:Int)) 0 else min v (n:Int))=(((if v<0 then (v+(n:Int)).toNat else min v.toNat n):Nat):Int);by_cases hv:v<0
 ·simp only[aj hv];omega
 ·simp only[ao hv];omega
theorem KW(lo hi:Option Int)(n:Nat):jL lo hi 1 (n:Int)=(((sIx n 0 lo:Nat):Int),((sIx n n hi:Nat):Int)):=by
 have h1:¬((1:Int)<0):=by omega
 unfold jL;simp only[h1,if_false];refine pE ?_ ?_
 ·cases lo with
  |none=>rfl
  |some v=>exact L6 v n 0
 ·cases hi with
  |none=>rfl
  |some v=>exact L6 v n n
theorem KY(i j:Nat):iF (i:Int) (j:Int) 1=j - i:=by
 unfold iF;have h1:(1:Int) > 0:=by omega
 simp only[h1,if_true,Int.ediv_one];split<;>omega
theorem EX(p:eL v o)(h:Q o s):ai (model prog w) A (qb v) Q E s:=by
 cases p with
 |none=>exact ou h
 |int i t=>exact slicePart_int h
theorem CW{sl:Addr}{vl vu:ae}{lo hi:Option Int}{n:Nat}{Q:Int×Int×Nat->ag->Prop}(hs:s.heap.IsSliceOf sl vl vu .none)(pl:eL vl lo)(pu:eL vu hi)
  (h:Q (((sIx n 0 lo:Nat):Int),1,sIx n n hi - sIx n 0 lo) s):ai (model prog w) A (md (.ref sl) (pure (n:Int))) Q E s:=by
 obtain⟨os,hos,hcs,hds⟩:=id hs;unfold md qt;refine aq (aq (kO hos hds (x:=vl) rfl (aq (kO hos hds (x:=vu) rfl (aq (kO hos hds (x:=.none) rfl (aB ?_)))))));refine aq (ou ?_);show ai _ _ (if ((1:Int)==0)=true then _ else _) _ _ s;rw[ao (by decide)];refine aq (EX pl (aq (EX pu (aq (aB ?_)))));show ai _ _ (match jL lo hi 1 (n:Int)with|(lo,hi)=>pure (lo,(1:Int),iF lo hi 1)) _ _ s;rw[KW lo hi n];show ai _ _ (pure (((sIx n 0 lo:Nat):Int),(1:Int),iF ((sIx n 0 lo:Nat):Int) ((sIx n n hi:Nat):Int) 1)) _ _ s;rw[KY];exact aB h
theorem OO(xs:Array ae)(i k:Nat):((bH k).filterMap λ(m:Nat)=>xs[((i:Int)+(m:Int) * 1).toNat]?).toArray=((xs.toList.drop i).take k).toArray:=by
 have e:(λ(m:Nat)=>xs[((i:Int)+(m:Int) * 1).toNat]?)=λm=>xs[i+m]?:=by
  funext m
  have:((i:Int)+(m:Int) * 1).toNat=i+m:=by omega
  rw[this]
 rw[e];have:=pick_run xs i k;rw[List.filterMap_map]at this;have e2:((λx=>xs[x]?)∘λx=>i+x)=λm=>xs[i+m]?:=rfl;rw[e2]at this;rw[this]
theorem B5{lo:Option Int}(ht:dP s.heap t items)(hs:s.heap.IsSliceOf sl vl vu .none)(pl:eL vl lo)(pu:eL vu hi)
  (hw:¬(sIx items.size 0 lo=0/\sIx items.size items.size hi=items.size))
  (h:Q (.ref s.heap.objs.size) { s with heap:=s.heap.push { cls:=.type "tuple", data:=.seq ((items.toList.drop (sIx items.size 0 lo)).take (sIx items.size items.size hi - sIx items.size 0 lo)).toArray } })
  (hsz:items.size<=aJ):ai (model prog w) A (getItem (.ref t) (.ref sl)) Q E s:=by
 have htake:sizeOk (.seq ((items.toList.drop (sIx items.size 0 lo)).take (sIx items.size items.size hi - sIx items.size 0 lo)).toArray):=by show ((items.toList.drop (sIx items.size 0 lo)).take (sIx items.size items.size hi - sIx items.size 0 lo)).toArray.size<=aJ;rw[bp,bw,cg,eW];omega
 have hj:sIx items.size items.size hi<=items.size:=Vu _ _ (aI _) hi;obtain⟨os,hos,hcs,hds⟩:=id hs;have hTs:s.TypeIs (.ref sl) "slice" := ⟨os,hos,hcs⟩;unfold getItem
 try with_reducible refine cM ?_
 first|refine aq (aB ?_)|skip
 refine aq (wpAny_sequenceKey ht.typeIs (by decide) ?_);refine aq (wpAny_callSpecial?_slot (name:=Str.ofString "__getitem__") ht.typeIs iE
  (iU iE ht.typeIs entry_tuple_getitem ?_ (args_tuple_getitem _ _)))
 show ai _ _ (qd (.ref t)>>=_) _ _ s;refine aq (tupleItemsOf_ ht ?_);refine aq (jg hTs ?_);rw[aj (by decide)];refine aq (CW hs pl pu ?_);have hno:¬((((sIx items.size 0 lo:Nat):Int)==0&&(1:Int)==1&&(sIx items.size items.size hi - sIx items.size 0 lo)==items.size)=true):=by intro q;rw[bq,bq]at q;have q1:((sIx items.size 0 lo:Nat):Int)=0:=fz q.1.1;have q2:sIx items.size items.size hi - sIx items.size 0 lo=items.size:=fz q.2;exact hw ⟨by omega,by omega⟩
 show ai _ _ (if (((sIx items.size 0 lo:Nat):Int)==0&&(1:Int)==1&&(sIx items.size items.size hi - sIx items.size 0 lo)==items.size)=true then _ else _) _ _ s;rw[ao hno,OO]
 first
  |exact aq (m:=iI _) (fN (aB ⟨_,rfl,aB h⟩) htake)
  |exact aq (m:=iI _) (fN (aq (aB (aB ⟨_,rfl,aB h⟩))) htake)
  |exact aq (aq (m:=iI _) (fN (aB (aB ⟨_,rfl,aB h⟩)) htake))
  |exact aq (aq (m:=iI _) (fN (aB ⟨_,rfl,aB h⟩) htake))
end
end HT
namespace L2
open PySem PySem.Spec PyProof.Rows
abbrev TO:=St->Hp->(Option Int->Hp->Prop)->Prop
def PO(X:Cx)(e:Option Expr)(t:TO):Prop:=
 ∀(pins:cH) (s:ag) (σ:St) (H:Hp) (Q:Option Int->Hp->Prop),Inv X pins σ H s->t σ H Q->
  ai (model X.prog X.w) X.A (evalPart e X.env) (λu s'=>∃o H',Inv X pins σ H' s'/\eL u o/\Q o H') X.xe s
def RR:TO:=λ_ H Q=>Q none H
def Zh(t:TE):TO:=λσ H Q=>t σ H λx H1=>∃i,x=.int i/\Q (some i) H1
section
variable{X:Cx}{e:Expr}{te:TE}{lo hi:Option Expr}{tl th:TO}{pos p2:Pos}
theorem L7:PO X none RR:=by intro pins s σ H Q I h;rw[oO];exact aB ⟨none,H,I,.none,h⟩
theorem L8(h:PE X e te):PO X (some e) (Zh te):=by intro pins s σ H Q I hw;rw[evalPart_some];refine thn (h pins s σ H _ I hw) λu s1 zz=>?_;obtain⟨x,H1,I1,r1,q1⟩:=zz;obtain⟨i,rfl,q⟩:=q1;obtain⟨t,rfl⟩:=r1;exact⟨some i,H1,I1,.int i t,q⟩
def SlR(X:Cx)(r:V->Option Int->Option Int->Hp->VK->Prop):Prop:=
 ∀(pins:cH) (s:ag) (σ:St) (H:Hp) (x:V) (v vl vu:ae) (lo hi:Option Int) (sl:Addr) (Q:VK),Inv X pins σ H s->RelV x v->s.heap.IsSliceOf sl vl vu .none->eL vl lo->eL vu hi->r x lo hi H Q->
  ∃T id,typeLookup (.type T) "__getitem__" = pure (some (.builtin id))/\s.TypeIs v T/\ai (model X.prog X.w) X.A (getItem v (.ref sl)) (EP X pins σ Q) X.xe s
def tSl(r:V->Option Int->Option Int->Hp->VK->Prop)(te:TE)(tl th:TO):TE:=λσ H Q=>te σ H λx H1=>tl σ H1 λl H2=>th σ H2 λu H3=>r x l u H3 Q
theorem EY(hr:SlR X r)(he:PE X e te)(hl:PO X lo tl)(hu:PO X hi th):PE X (.Subscript e (.Slice lo hi none p2) pos) (tSl r te tl th):=by intro pins s σ H Q I h;refine kX (thn (he pins s σ H _ I h) λv s1 zz=>?_);obtain⟨x,H1,I1,r1,q1⟩:=zz;refine wpAny_Slice (thn (hl pins s1 σ H1 _ I1 q1) λvl s2 ⟨l,H2,I2,pl,q2⟩=>thn (hu pins s2 σ H2 _ I2 q2) λvu s3 zz=>?_);obtain⟨u,H3,I3,pu,q3⟩:=zz;rw[oO];refine aB ?_;have I4:Inv X pins σ H3 { s3 with heap:=s3.heap.push { cls:=.type "slice", data:=.fields #[vl,vu,.none] } }:=I3.kept (t':=s3.toks) λb ob q=>aM _ q;obtain⟨T,id,hT,ht,hg⟩:=hr pins { s3 with heap:=s3.heap.push { cls:=.type "slice", data:=.fields #[vl,vu,.none] } } σ H3 x v vl vu l u s3.heap.objs.size Q I4 r1 (rJ ..) pl pu q3;show ai (model X.prog X.w) X.A (subscriptTail e (.Slice lo hi none p2) v (.ref s3.heap.objs.size)) (EP X pins σ Q) X.xe { s3 with heap:=s3.heap.push { cls:=.type "slice", data:=.fields #[vl,vu,.none] } };exact tail_any (ops:=[.ref s3.heap.objs.size,v]) ht hT hg (by with_unfolding_all rfl)
def Jo(xs:bI)(lo hi:Option Int):bI:=(xs.drop (HT.sIx xs.length 0 lo)).take (HT.sIx xs.length xs.length hi - HT.sIx xs.length 0 lo)
theorem DK(xs:bI)(lo hi:Option Int):(Jo xs lo hi).length<=xs.length:=by unfold Jo;rw[bw,cg];omega
def Vv(K:ay):V->Option Int->Option Int->Hp->VK->Prop:=λx lo hi H Q=>∃a xs,x=.ref a/\SqT K H a xs/\
 ¬(HT.sIx xs.length 0 lo=0/\HT.sIx xs.length xs.length hi=xs.length)/\∀p,H p=none->Q (.ref p) (upd H p (.tup (Jo xs lo hi)))
theorem Vw:SlR X (Vv X.K):=by
 intro pins s σ H x v vl vu lo hi sl Q I rx hs pl pu h;obtain⟨a,xs,rfl,hx,hw,q⟩:=h;cases rx;obtain⟨its,r,ht,hz⟩:=I.tuple hx;have hlen:its.toArray.size=xs.length:=by rw[bp];exact r.length.symm
 refine⟨"tuple", _,iE.lookup,ht.typeIs,?_⟩;refine HT.B5 ht hs pl pu (by rw[hlen];exact hw) ?_ (by rw[hlen];exact hz);rw[hlen];refine⟨.ref s.heap.objs.size,_,I.laid (t':=s.toks) (o:=.tup (Jo xs lo hi)) (λb ob q=>aM _ q) (aI _) ?_,rfl,q _ (I.hok.fresh (aI _))⟩;exact⟨bQ (DK xs lo hi) hz,_,(r.drop (HT.sIx xs.length 0 lo)).take (HT.sIx xs.length xs.length hi - HT.sIx xs.length 0 lo),lj _ _⟩
def Zi(K:ay):R2:=λx y H Q=>∃a b xs ys,x=.ref a/\y=.ref b/\SqT K H a xs/\SqT K H b ys/\xs≠[]/\xs.length+ys.length<=aJ/\
 (ys=[]->Q (.ref a) H)/\(ys≠[]->∀p,H p=none->Q (.ref p) (upd H p (.tup (xs++ys))))
theorem Vals.nil_iff(r:Vals xs us):us=[] ↔ xs=[]:=by
 cases r with
 |nil=>simp
 |cons _ _=>simp
theorem RS:OpR X (cQ .Add) (Zi X.K):=by intro pins s σ H x y v u Q I rx ry h;obtain⟨a,b,xs,ys,rfl,rfl,ha,hb,hx,hz,q1,q2⟩:=h;cases rx;cases ry;obtain⟨its,r1,p1,_⟩:=I.tuple ha;obtain⟨its2,r2,p2,_⟩:=I.tuple hb;refine HT.RQ p1 p2 (λz=>hx (r1.nil_iff.mp z)) (λz=>⟨.ref a,H,I,rfl,q1 (r2.nil_iff.mp z)⟩) (λz=>?_) (by rw[<-r1.length,<- r2.length];exact hz);refine⟨.ref s.heap.objs.size,_,I.laid (t':=s.toks) (o:=.tup (xs++ys)) (λb ob q=>aM _ q) (aI _) ?_,rfl,q2 (λw=>z (r2.nil_iff.mpr w)) _ (I.hok.fresh (aI _))⟩;exact⟨by rw[aC];exact hz,_,r1.append r2,lj _ _⟩
end
def ixN(n:Nat)(i:Int):Option Nat:=if 0<=i then (if i<n then some i.toNat else none)else if -(n:Int)<=i then some (i+n).toNat else none
def atI{α:Type}(xs:List α)(i:Int):Option α:=(ixN xs.length i).bind λj=>xs[j]?
theorem RT(h:ixN n i=some j):seqIndex? i n=some j/\j<n/\-(n:Int)<=i/\i<n:=by
 unfold ixN at h;by_cases h0:0<=i
 ·rw[aj h0]at h;by_cases h1:i<n
  ·rw[aj h1]at h;have e:i.toNat=j:=cq h;exact⟨by rw[kP h0 h1,e],by omega,by omega,h1⟩
  ·rw[ao h1]at h;cases h
 ·rw[ao h0]at h;by_cases h1:-(n:Int)<=i
  ·rw[aj h1]at h;have e:(i+n).toNat=j:=cq h;exact⟨by rw[seqIndex_neg (by omega) h1,e],by omega,h1,by omega⟩
  ·rw[ao h1]at h;cases h
theorem Ia{α:Type}{xs:List α}{i:Int}{v:α}(h:atI xs i=some v):∃j,seqIndex? i xs.length=some j/\xs[j]?=some v/\j<xs.length/\-(xs.length:Int)<=i/\i<xs.length:=by
 unfold atI at h;cases e:ixN xs.length i with
 |none=>rw[e]at h;cases h
 |some j=>rw[e]at h;obtain⟨h1,h2,h3,h4⟩:=RT e;exact⟨j,h1,h,h2,h3,h4⟩
theorem EF{α:Type}{xs:List α}{j:Nat}{v:α}(h:xs[j]?=some v):atI xs (j:Int)=some v:=by
 have hj:j<xs.length:=(bW.mp h).1;have e:ixN xs.length (j:Int)=some j:=by unfold ixN;rw[aj (by omega),aj (by omega)];simp
 unfold atI;rw[e];exact h
def L9(b:Expr):Prop:=∀o i,subscripted b false o i=operate [o,i] (getItem o i)
def IxR(X:Cx)(r:R2):Prop:=
 ∀(value slice:Expr) (pins:cH) (s:ag) (σ:St) (H:Hp) (x y:V) (v u:ae) (Q:VK),Inv X pins σ H s->RelV x v->RelV y u->r x y H Q->
  subscripted slice false v u=operate [v,u] (getItem v u)->ai (model X.prog X.w) X.A (subscriptTail value slice v u) (EP X pins σ Q) X.xe s
def MtR(X:Cx)(id:String)(r:V->bI->Hp->VK->Prop):Prop:=
 ∀(pins:cH) (s:ag) (σ:St) (H:Hp) (x:V) (xs:bI) (v:ae) (us:List ae) (Q:VK),Inv X pins σ H s->RelV x v->Vals xs us->r x xs H Q->
  ai (model X.prog X.w) X.A (call (.builtin id) (v::us)) (EP X pins σ Q) X.xe s
section
variable{X:Cx}{a b:Expr}{ta tb:TE}{pos:Pos}
theorem IxR.or(h:IxR X r)(h':IxR X r'):IxR X (λx y H Q=>r x y H Q\/r' x y H Q):=by
 intro value slice pins s σ H x y v u Q I rx ry q hs;rcases q with q|q
 ·exact h value slice pins s σ H x y v u Q I rx ry q hs
 ·exact h' value slice pins s σ H x y v u Q I rx ry q hs
theorem UB(hr:IxR X r)(ha:PE X a ta)(hb:PE X b tb)(hs:L9 b):PE X (.Subscript a b pos) (tOp r ta tb):=by intro pins s σ H Q I h;exact kX (Vj ha hb I h λv u s2 x y H2 I2 rx ry q=>hr a b pins s2 σ H2 x y v u Q I2 rx ry q (hs _ _))
def RU(K:ay):R2:=λx y H Q=>∃p xs i v,x=.ref p/\y=.int i/\SqL K H p xs/\atI xs i=some v/\Q v H
def Zj(K:ay):R2:=λx y H Q=>∃p xs i v,x=.ref p/\y=.int i/\SqT K H p xs/\atI xs i=some v/\Q v H
def Zk:R2:=λx y H Q=>∃z i c,x=.str z/\y=.int i/\z.length<=aJ/\atI z.cps.toList i=some c/\Q (.str ⟨#[c]⟩) H
theorem Ma:IxR X (RU X.K):=by
 intro value slice pins s σ H x y v u Q I rx ry h hs;obtain⟨p,xs,i,z,rfl,rfl,hq,he,q⟩:=h;cases rx;obtain⟨t,rfl⟩:=ry;obtain⟨its,r,pl,hz⟩:=I.list hq;obtain⟨j,h1,h2,h3,h4,h5⟩:=Ia he;obtain⟨w,ew,rw'⟩:=r.get h2;have hl:=r.length;have hn:=ES;have fin:EP X pins σ Q w s:=⟨z,H,I,rw',q⟩;by_cases h0:0<=i
 ·have hj:i.toNat=j:=by rw[kP h0 h5]at h1;exact cq h1
  exact item_listR pl.isList h0 (by omega) (by rw[hj];simpa using ew) fin hs
 ·have hj:(i+(its.toArray.size:Int)).toNat=j:=by rw[seqIndex_neg (by omega) h4]at h1;rw[bp,<- hl];exact cq h1
  exact my (x:=w) pl.isList.typeIs nu.lookup
   (wpAny_getItem_list_neg (Q:=λr s'=>r=w/\EP X pins σ Q r s') pl.isList (by omega) (by rw[bp]<;>omega) (by omega) (by rw[hj];simpa using ew) ⟨rfl,fin⟩) hs
theorem Vx:IxR X (Zj X.K):=by
 intro value slice pins s σ H x y v u Q I rx ry h hs;obtain⟨p,xs,i,z,rfl,rfl,hq,he,q⟩:=h;cases rx;obtain⟨t,rfl⟩:=ry;obtain⟨its,r,pl,hz⟩:=I.tuple hq;obtain⟨j,h1,h2,h3,h4,h5⟩:=Ia he;obtain⟨w,ew,rw'⟩:=r.get h2;have hl:=r.length;have hn:=ES;have fin:EP X pins σ Q w s:=⟨z,H,I,rw',q⟩;exact my (x:=w) pl.typeIs iE.lookup
  (getItem_tuple (j:=j) (Q:=λr s'=>r=w/\EP X pins σ Q r s') pl (by omega) (by omega) (by rw[bp,<- hl];exact h1) (by simpa using ew) ⟨rfl,fin⟩) hs
theorem Vy:IxR X Zk:=by
 intro value slice pins s σ H x y v u Q I rx ry h hs;obtain⟨z,i,c,rfl,rfl,hz,he,q⟩:=h;obtain⟨t,rfl⟩:=rx;obtain⟨t',rfl⟩:=ry;obtain⟨j,h1,h2,h3,h4,h5⟩:=Ia he;have hl:z.cps.toList.length=z.length:=by simp[pz]
 rw[hl]at h1 h4 h5;have hn:=ES;exact tail_any (typeIs_str s z t) slot_str_getitem.lookup (getItem_str (c:=c) (by
  have e1:decide (i < -(2 ^ 63:Int))=false:=aO (by omega);have e2:decide (i >= 2 ^ 63)=false:=aO (by omega);rw[e1,e2,oP]) (by rw[h1];simpa using h2) ⟨.str ⟨#[c]⟩,H,I.tok _,⟨_,rfl⟩,q⟩) hs
def rIx(K:ay):R2:=λx y H Q=>RU K x y H Q\/Zj K x y H Q\/Zk x y H Q
theorem Vz:IxR X (rIx X.K):=Ma.or (Vx.or Vy)
theorem Ib(lo hi:Option Int)(n:Nat):(sliceBounds lo hi none n).1=((HT.sIx n 0 lo:Nat):Int)/\(sliceBounds lo hi none n).2.1=((HT.sIx n n hi:Nat):Int)/\(sliceBounds lo hi none n).2.2=1:=by
 refine⟨?_,?_,rfl⟩
 ·cases lo with
  |none=>simp[sliceBounds,HT.sIx]
  |some i=>
   simp only[sliceBounds,HT.sIx,nO,show (1:Int) > 0 by decide,if_true];by_cases h:i<0
   ·simp only[h,if_true]<;>omega
   ·simp only[h,if_false]<;>omega
 ·cases hi with
  |none=>simp[sliceBounds,HT.sIx]
  |some i=>
   simp only[sliceBounds,HT.sIx,nO,show (1:Int) > 0 by decide,if_true];by_cases h:i<0
   ·simp only[h,if_true]<;>omega
   ·simp only[h,if_false]<;>omega
theorem Gs(its:List ae)(lo hi:Option Int):slicePick its.toArray lo hi none=((its.drop (HT.sIx its.length 0 lo)).take (HT.sIx its.length its.length hi - HT.sIx its.length 0 lo)).toArray:=by obtain⟨h1,h2,h3⟩:=Ib lo hi its.toArray.size;unfold slicePick;rw[h1,h2,h3];simp only[sliceRange_one,pick_run,bp]<;>rfl
def Nq(K:ay):V->Option Int->Option Int->Hp->VK->Prop:=λx lo hi H Q=>∃a xs,x=.ref a/\SqL K H a xs/\∀p,H p=none->Q (.ref p) (upd H p (.lst (Jo xs lo hi)))
theorem RV:SlR X (Nq X.K):=by intro pins s σ H x v vl vu lo hi sl Q I rx hs pl pu h;obtain⟨a,xs,rfl,hx,q⟩:=h;cases rx;obtain⟨its,r,ht,hz⟩:=I.list hx;have hlen:=r.length;refine⟨"list", _,nu.lookup,ht.isList.typeIs,?_⟩;refine wpAny_getItem_list_slice ht.isList hs pl pu .none (by simp) ?_ (by rw[bp]<;>omega);rw[Gs,<- hlen];refine⟨.ref s.heap.objs.size,_,I.laid (t':=s.toks) (o:=.lst (Jo xs lo hi)) (λb ob q=>aM _ q) (aI _) ?_,rfl,q _ (I.hok.fresh (aI _))⟩;exact⟨bQ (DK xs lo hi) hz,_,0,(r.drop (HT.sIx xs.length 0 lo)).take (HT.sIx xs.length xs.length hi - HT.sIx xs.length 0 lo),bF _ rfl⟩
def Bm:V->Bool
 |.non=>true
 |.bl _=>true
 |.int _=>true
 |.str _=>true
 |_=>false
def eqV:V->V->Bool
 |.non,.non=>true
 |.bl a,.bl b=>a==b
 |.bl a,.int b=>(if a then 1 else 0)==b
 |.int a,.bl b=>a==(if b then 1 else 0)
 |.int a,.int b=>a==b
 |.str a,.str b=>a==b
 |_,_=>false
theorem EZ(ry:RelV y u)(rx:RelV x v)(fy:Bm y=true)(fx:Bm x=true):jl A s u v (eqV y x):=by
 cases y with
 |non=>
  cases ry;cases x with
  |non=>cases rx;exact gX _
  |bl b=>cases rx;exact qR b
  |int b=>obtain⟨t,rfl⟩:=rx;exact rf b t
  |str b=>obtain⟨t,rfl⟩:=rx;exact rg b t
  |_=>exact au (show false=true from fx) bA
 |bl a=>
  cases ry;cases x with
  |non=>cases rx;exact qS a
  |bl b=>cases rx;exact qT a b
  |int b=>obtain⟨t,rfl⟩:=rx;exact rh a b t
  |str b=>obtain⟨t,rfl⟩:=rx;exact rj a b t
  |_=>exact au (show false=true from fx) bA
 |int a=>
  obtain⟨t',rfl⟩:=ry;cases x with
  |non=>cases rx;exact rl a t'
  |bl b=>cases rx;exact ro a t' b
  |int b=>obtain⟨t,rfl⟩:=rx;exact rK a t' b t
  |str b=>obtain⟨t,rfl⟩:=rx;exact mU a t' b t
  |_=>exact au (show false=true from fx) bA
 |str a=>
  obtain⟨t',rfl⟩:=ry;cases x with
  |non=>cases rx;exact rq a t'
  |bl b=>cases rx;exact rA a t' b
  |int b=>obtain⟨t,rfl⟩:=rx;exact mV a t' b t
  |str b=>obtain⟨t,rfl⟩:=rx;exact mY a t' b t
  |_=>exact au (show false=true from fx) bA
 |_=>exact au (show false=true from fy) bA
def eqU(x:V)(u:ae):Bool:=match u with
 |.none=>eqV .non x
 |.bool b=>eqV (.bl b) x
 |.int i _=>eqV (.int i) x
 |.str z _=>eqV (.str z) x
 |_=>false
theorem OP(r:RelV y u)(f:Bm y=true):eqU x u=eqV y x:=by
 cases y with
 |non=>cases r;rfl
 |bl b=>cases r;rfl
 |int i=>obtain⟨t,rfl⟩:=r;rfl
 |str z=>obtain⟨t,rfl⟩:=r;rfl
 |_=>exact au (show false=true from f) bA
theorem B6:∀{xs:bI} {us:List ae},Vals xs us->xs.all Bm=true->us.any (eqU x)=xs.any λy=>eqV y x
 |_,_,.nil,_=>rfl
 |y::xs,u::us,.cons r t,f=>by rw[dJ,bq]at f;rw[eF,eF,OP r f.1,B6 t f.2]
theorem Am(rx:RelV x v)(fx:Bm x=true):∀{xs:bI} {us:List ae},Vals xs us->xs.all Bm=true->∀u∈us,jl A s u v (eqU x u)
 |_,_,.nil,_=>λu hu=>by cases hu
 |y::xs,u::us,.cons r t,f=>λu' hu=>by
  rw[dJ,bq]at f;rcases aN.mp hu with rfl|hu
  ·rw[OP r f.1];exact EZ r rx f.1 fx
  ·exact Am rx fx t f.2 u' hu
def inV(x:V)(xs:bI):Bool:=xs.any λy=>eqV y x
def rIn(K:ay)(neg:Bool):R2:=λx y H Q=>∃p xs,y=.ref p/\(SqL K H p xs\/SqT K H p xs)/\Bm x=true/\xs.all Bm=true/\Q (.bl (if neg then !inV x xs else inV x xs)) H
theorem Nr:OpR X (br .In) (rIn X.K false):=by
 intro pins s σ H x y v u Q I rx ry h;obtain⟨p,xs,rfl,hq,fx,fs,q⟩:=h;cases ry;rcases hq with hq|hq
 ·obtain⟨its,r,pl,hz⟩:=I.list hq;refine SeqAt.in_listAt (eqU x) pl.isList (λw hw=>Am rx fx r fs w (by simpa using hw)) ⟨.bl _,H,I,rfl,?_⟩;rw[show its.toArray.any (eqU x)=its.any (eqU x) by simp,B6 r fs];exact q
 ·obtain⟨its,r,pl,hz⟩:=I.tuple hq;refine SeqAt.in_tupleAt (eqU x) pl (λw hw=>Am rx fx r fs w (by simpa using hw)) ⟨.bl _,H,I,rfl,?_⟩;rw[show its.toArray.any (eqU x)=its.any (eqU x) by simp,B6 r fs];exact q
theorem Ie:OpR X (br .NotIn) (rIn X.K true):=by
 intro pins s σ H x y v u Q I rx ry h;obtain⟨p,xs,rfl,hq,fx,fs,q⟩:=h;cases ry;rcases hq with hq|hq
 ·obtain⟨its,r,pl,hz⟩:=I.list hq;refine SeqAt.notIn_listAt (eqU x) pl.isList (λw hw=>Am rx fx r fs w (by simpa using hw)) ⟨.bl _,H,I,rfl,?_⟩;rw[show its.toArray.any (eqU x)=its.any (eqU x) by simp,B6 r fs];exact q
 ·obtain⟨its,r,pl,hz⟩:=I.tuple hq;refine SeqAt.notIn_tupleAt (eqU x) pl (λw hw=>Am rx fx r fs w (by simpa using hw)) ⟨.bl _,H,I,rfl,?_⟩;rw[show its.toArray.any (eqU x)=its.any (eqU x) by simp,B6 r fs];exact q
theorem Ig:ux X (.builtin "len") (λxs H Q=>∃p ys,xs=[.ref p]/\(SqL X.K H p ys\/SqT X.K H p ys)/\Q (.int ys.length) H):=by
 intro pins s σ H xs us Q I r h;obtain⟨p,ys,rfl,hq,q⟩:=h;obtain⟨u,rfl,rx⟩:=vals1 r;cases rx;have hn:=ES;rcases hq with hq|hq
 ·obtain⟨its,r',pl,hz⟩:=I.list hq;have hlen:=r'.length;exact Calls.call_len_list pl.isList (by simp only[bp]<;>omega) ⟨.int ys.length,H,I.tok _,⟨s.toks+1,by rw[bp,hlen]⟩,q⟩
 ·obtain⟨its,r',pl,hz⟩:=I.tuple hq;have hlen:=r'.length;exact len_tuple pl (by simp only[bp]<;>omega) ⟨.int ys.length,H,I.tok _,⟨s.toks+1,by rw[bp,hlen]⟩,q⟩
theorem Ih:ux X (.builtin "len") (λxs H Q=>∃z,xs=[.str z]/\z.length<=aJ/\Q (.int z.length) H):=by intro pins s σ H xs us Q I r h;obtain⟨z,rfl,hz,q⟩:=h;obtain⟨u,rfl,t,rfl⟩:=vals1 r;have hn:=ES;exact len_str (by omega) ⟨.int z.length,H,I.tok _,⟨_,rfl⟩,q⟩
theorem Ii:ux X (.type "list") (λxs H Q=>∃p ys,xs=[.ref p]/\(SqL X.K H p ys\/SqT X.K H p ys)/\∀l,H l=none->Q (.ref l) (upd H l (.lst ys))):=by
 intro pins s σ H xs us Q I r h;obtain⟨p,ys,rfl,hq,q⟩:=h;obtain⟨u,rfl,rx⟩:=vals1 r;cases rx;have fin:∀(its:List ae),Vals ys its->ys.length<=aJ->∀(h':Heap) (c':Nat),(∀b o',s.heap.get? b=some o'->h'.get? b=some o')->
   h'.get? s.heap.objs.size=some { cls:=.type "list", dict:=none,data:=.seq its.toArray c',slots:=#[] }->EP X pins σ Q (.ref s.heap.objs.size) { s with heap:=h' }:=λits r' hz h' c' kp e=>
  ⟨.ref s.heap.objs.size,_,I.laid (t':=s.toks) kp (aI _) (show tY X.prog X.w _ h' _ (.lst ys) from⟨hz,its,c',r',e⟩),rfl,q _ (I.hok.fresh (aI _))⟩
 rcases hq with hq|hq
 ·obtain⟨its,r',pl,hz⟩:=I.list hq;have hlen:=r'.length;obtain⟨o,ho,hc,n,hd⟩:=pl.isList;exact oQ p (.inl rfl) ho hc hd (λh' c' kp e=>fin its r' hz h' c' kp e) (by simp only[bp]<;>omega)
 ·obtain⟨its,r',pl,hz⟩:=I.tuple hq;have hlen:=r'.length;obtain⟨o,ho,hc,n,hd⟩:=pl;exact oQ p (.inr rfl) ho hc hd (λh' c' kp e=>fin its r' hz h' c' kp e) (by simp only[bp]<;>omega)
theorem Gu:ux X (.type "tuple") (λxs H Q=>∃p ys,xs=[.ref p]/\((SqL X.K H p ys/\∀l,H l=none->Q (.ref l) (upd H l (.tup ys)))\/(SqT X.K H p ys/\Q (.ref p) H))):=by
 intro pins s σ H xs us Q I r h;obtain⟨p,ys,rfl,h⟩:=h;obtain⟨u,rfl,rx⟩:=vals1 r;cases rx;rcases h with ⟨hq,q⟩|⟨hq,q⟩
 ·obtain⟨its,r',pl,hz⟩:=I.list hq;have hlen:=r'.length;refine call_tuple_list pl.isList (λh' kp=>?_) (by simp only[bp]<;>omega);have I1:Inv X pins σ H { s with heap:=h' }:=I.kept (t':=s.toks) kp;have I2:Inv X pins σ (upd H h'.objs.size (.tup ys)) { s with heap:=h'.push { cls:=.type "tuple", data:=.seq its.toArray } }:=
   I1.laid (t':=s.toks) (λb o e=>aM _ e) (aI _) (show tY X.prog X.w _ _ _ (.tup ys) from⟨hz,its,r',lj _ _⟩)
  exact⟨.ref h'.objs.size,_,I2,rfl,q _ (I1.hok.fresh (aI _))⟩
 ·obtain⟨its,r',pl,hz⟩:=I.tuple hq;exact call_tuple_same pl ⟨.ref p,H,I,rfl,q⟩
def tyV(K:ay)(T:String)(x:V)(H:Hp):Prop:=match x with
 |.str _=>T="str"
 |.int _=>T="int"
 |.ref p=>(T="list" /\ ∃xs,SqL K H p xs)\/(T="tuple" /\ ∃o,K.lookup p=some o/\o.cls=.type "tuple" /\ o.dict=none)\/
   (T="dict" /\ ((∃kvs,H p=some (.dK kvs))\/∃kvs,H p=some (.dT kvs)))\/(T="set" /\ ∃S n,H p=some (.set S n))
 |_=>False
theorem VA(I:Inv X pins σ H s)(r:RelV x v)(ty:tyV X.K T x H):
  s.TypeIs v T/\∀a,v=.ref a->∃ob,s.heap.get? a=some ob/\ob.dict=none:=by
 cases x with
 |str z=>obtain⟨t,rfl⟩:=r;cases (show T="str" from ty);exact⟨typeIs_str s z t,λ_ e=>nomatch e⟩
 |int i=>obtain⟨t,rfl⟩:=r;cases (show T="int" from ty);exact⟨typeIs_int s i t,λ_ e=>nomatch e⟩
 |ref p=>
  cases r;rcases ty with ⟨rfl,xs,hq⟩|⟨rfl,o,hk,hc,hd⟩|⟨rfl,hk⟩|⟨rfl,S,n,hk⟩
  ·obtain⟨its,_,pl,_⟩:=I.list hq;refine⟨pl.isList.typeIs,λa e=>?_⟩;cases e;obtain⟨o,n,e,c,hd,_⟩:=pl;exact⟨o,e,hd⟩
  ·refine⟨⟨o,I.kIn p o hk,hc⟩,λa e=>?_⟩;cases e;exact⟨o,I.kIn _ o hk,hd⟩
  ·have z:∃o,s.heap.get? p=some o/\o.ExactDict:=by
    rcases hk with ⟨kvs,hk⟩|⟨kvs,hk⟩
    ·obtain⟨_,_,_,_,o,_,_,e,ex,_⟩:=I.hok p _ hk;exact⟨o,e,ex⟩
    ·obtain⟨_,_,_,_,o,_,_,e,ex,_⟩:=I.hok p _ hk;exact⟨o,e,ex⟩
   obtain⟨o,e,ex⟩:=z;refine⟨⟨o,e,ex.1⟩,λa e2=>?_⟩;cases e2;exact⟨o,e,ex.2.1⟩
  ·obtain⟨o,_,_,_,e,ex,_⟩:=I.hok p _ hk;refine⟨⟨o,e,ex.1⟩,λa e2=>?_⟩;cases e2;exact⟨o,e,ex.2.1⟩
 |_=>exact cO ty
def tBM(K:ay)(T:String)(r:V->bI->Hp->VK->Prop)(to:TE)(t:TA):TE:=λσ H Q=>to σ H λx H1=>tyV K T x H1/\t σ H1 λxs H2=>r x xs H2 Q
variable{o e:Expr}{es:List Expr}{to:TE}{t:TA}{name:Str}{apos cpos:Pos}{T id:String}{r:V->bI->Hp->VK->Prop}
theorem Zl(pa:kY T)(slot:Slot T name id)(hty:typeOf (.builtin id)=pure (.type "method_descriptor"))(hm:MtR X id r)(ho:PE X o to)(ha:PA X (e::es) t)
  (hbase:dH o name X.env (eval o X.env)=eval o X.env:=by rfl)
  (hfew:((bD cpos (aA (e::es) X.env)).all (λx=>!x.1)&&(backToKw cpos (dq [] X.env)).all (λx=>x.1.isSome)
   && decide ((e::es).length+([]:List eJ).length+(if ([]:List eJ).isEmpty then 0 else 1)<30))=true:=by rfl)
  (hline:(apos.endLine==cpos.line)=true:=by rfl) (hs:aA (e::es) X.env=(false,eval e X.env)::aA es X.env:=by rfl) (hplain:(bD cpos (aA es X.env)).any (·.1)=false:=by rfl):
  PE X (.Call (.Attribute o name apos) (e::es) [] cpos) (tBM X.K T r to t):=by
 intro pins s σ H Q I h;refine wpAny_Call_method_late hbase hfew hline rfl (thn (ho pins s σ H _ I h) λv s1 zz=>?_);obtain⟨x,H1,I1,r1,ty,q1⟩:=zz;obtain⟨h1,h2⟩:=VA I1 r1 ty;refine⟨T,id,pa,slot,hty,h1,h2,?_⟩;have hA:=ha cpos pins s1 σ H1 _ I1 q1;rw[hs]at hA ⊢;refine gz (by show (false||(bD cpos (aA es X.env)).any (·.1))=false;rw[hplain]<;>rfl) (iM ?_)
 exact thn hA λus s2 ⟨vs,H2,I2,r2,q2⟩=>hm pins s2 σ H2 x vs v us Q I2 r1 r2 q2
end
def MtM(X:Cx)(id:String)(r:V->bI->Hp->VK->Prop):Prop:=
 ∀(pins:cH) (s:ag) (σ:St) (H:Hp) (x:V) (xs:bI) (v:ae) (us:List ae) (Q:VK),Inv X pins σ H s->RelV x v->Vals xs us->r x xs H Q->
  ai (model X.prog X.w) X.A (call (.builtin id) (v::us)) (EP X pins σ Q) X.xe s
theorem Vals.one:∀{x:V} {us:List ae},Vals [x] us->∃u,us=[u]/\RelV x u
 |_,_,.cons r .nil=>⟨_,rfl,r⟩
theorem Vals.eraseIdx:∀{xs:bI} {us:List ae} (i:Nat),Vals xs us->Vals (xs.eraseIdx i) (us.eraseIdx i)
 |_,_,_,.nil=>.nil
 |_,_,0,.cons _ t=>t
 |_,_,i+1,.cons r t=>.cons r (Vals.eraseIdx i t)
theorem GR{α:Type}:∀(l:List α) (i:Nat),(l.eraseIdx i).length<=l.length
 |[],_=>aI _
 |_::_,0=>fw _
 |_::r,i+1=>Nat.succ_le_succ (GR r i)
section
variable{X:Cx}{pins:cH}{σ:St}{H:Hp}{s:ag}{l b:Addr}{xs ys zs:bI}
theorem Inv.lset{its its':List ae}(I:Inv X pins σ H s)(hH:H l=some (.lst xs))
  (e:s.heap.get? l=some { cls:=.type "list", data:=.seq its.toArray n }) (hf:f its.toArray=its'.toArray) (hv:Vals ys its') (hz:ys.length<=aJ):
  Inv X pins σ (upd H l (.lst ys)) { s with heap:=s.heap.update l (c8 f),toks:=t' }:=by
 have q:=PySem.IsL.update e f;rw[hf]at q;refine I.write (x:=l) (e:=l) (by rw[hH];exact trivial) (.inl rfl) (λb' u hb hu=>(gA s.heap (c8 f) (c9 hb)).trans hu) ⟨_,q⟩ ?_;exact⟨hz,its',_,hv,q⟩
theorem Inv.lnew(I:Inv X pins σ H s)(hv:Vals ys its)(hz:ys.length<=aJ):
  Inv X pins σ (upd H s.heap.objs.size (.lst ys)) { s with heap:=s.heap.push { cls:=.type "list", data:=.seq its.toArray },toks:=t' }:=
 I.laid (λ_ _ q=>aM _ q) (aI _) ⟨hz,its,0,hv,bF _ rfl⟩
theorem Inv.fresh(I:Inv X pins σ H s):H s.heap.objs.size=none:=I.hok.fresh (aI _)
theorem Inv.lstM(I:Inv X pins σ H s)(hH:H l=some (.lst xs)):xs.length<=aJ/\∃(its:List ae) (n:Nat),Vals xs its/\xs.length=its.length/\s.heap.get? l=some { cls:=.type "list", data:=.seq its.toArray n }:=by obtain⟨z,its,n,r,e⟩:=I.hok l _ hH;exact⟨z,its,n,r,r.length,e⟩
theorem Jp(h:n<=aJ):gv n=false:=by unfold gv;exact aO (by omega)
end
section
variable{X:Cx}
def Ik:V->bI->Hp->VK->Prop:=λx vs H Q=>∃l xs y,x=.ref l/\vs=[y]/\H l=some (.lst xs)/\xs.length<aJ/\Q .non (upd H l (.lst (xs++[y])))
theorem CY:MtM X "list.append" Ik:=by intro pins s σ H x vs v us Q I rx rv h;obtain⟨l,xs,y,rfl,rfl,hH,hz,q⟩:=h;cases rx;obtain⟨u,rfl,ru⟩:=rv.one;obtain⟨z,its,n,r,hl,e⟩:=I.lstM hH;refine hJ j2 ⟨_,e,rfl⟩ F.entry_list_append (F.args_list_append_2 _ _) (PySem.list_append l its.toArray n u (by rw[bp];omega)) ⟨e,?_⟩;refine⟨.non,_,I.lset (its':=its++[u]) hH e (by simp) (r.append (.cons ru .nil)) ?_,rfl,q⟩;rw[aC,bh];omega
def RW:V->bI->Hp->VK->Prop:=λx vs H Q=>∃l b xs zs,x=.ref l/\vs=[.ref b]/\H l=some (.lst xs)/\H b=some (.lst zs)/\xs.length+zs.length<=aJ/\Q .non (upd H l (.lst (xs++zs)))
theorem YU:MtM X "list.extend" RW:=by
 intro pins s σ H x vs v us Q I rx rv h;obtain⟨l,b,xs,zs,rfl,rfl,hH,hB,hz,q⟩:=h;cases rx;obtain⟨u,rfl,ru⟩:=rv.one;cases ru;obtain⟨z,its,n,r,hl,e⟩:=I.lstM hH;obtain⟨z2,its2,n2,r2,hl2,e2⟩:=I.lstM hB;have hsz:its.toArray.size+its2.toArray.size<=aJ:=by rw[bp,bp];omega
 have hlong:¬(!its.toArray.isEmpty&&gv (its.toArray.size+its2.toArray.size))=true:=by rw[Jp hsz,ox];exact bA
 refine hJ j3 ⟨_,e,rfl⟩ mP (mK _ _)
  (AutoSeq1.list_extend_list_list_0 l its.toArray n b its2.toArray n2 hlong (by rw[bp];omega) (by omega)) ⟨e,e2,?_⟩
 refine⟨.non,_,I.lset (its':=its++its2) hH e (by simp) (r.append r2) ?_,rfl,q⟩;rw[aC];omega
def KZ:V->bI->Hp->VK->Prop:=λx vs H Q=>∃l xs i k y,x=.ref l/\vs=[.int i]/\H l=some (.lst xs)/\-(2 ^ 63)<=i/\i<2 ^ 63/\seqIndex? i xs.length=some k/\xs[k]?=some y/\Q y (upd H l (.lst (xs.eraseIdx k)))
theorem Jq:MtM X "list.pop" KZ:=by
 intro pins s σ H x vs v us Q I rx rv h;obtain⟨l,xs,i,k,y,rfl,rfl,hH,h1,h2,hk,hy,q⟩:=h;cases rx;obtain⟨u,rfl,ru⟩:=rv.one;obtain⟨t,rfl⟩:=ru;obtain⟨z,its,n,r,hl,e⟩:=I.lstM hH;obtain⟨w,hw,rw'⟩:=r.get hy;refine hJ j9 ⟨_,e,rfl⟩ F.entry_list_pop (F.args_list_pop_2 _ _)
  (MeetsSeq.list_pop_at l its.toArray n i t k w (fitsIndex_both h1 h2) (by rw[bp,<- hl];exact hk) (by rw[<-jN];exact hw) (by rw[bp];omega)) ⟨e,?_⟩
 refine⟨y,_,I.lset (its':=its.eraseIdx k) hH e ?_ (r.eraseIdx k) ?_,rw',q⟩
 ·show its.toArray.eraseIdxIfInBounds k=(its.eraseIdx k).toArray;rw[List.eraseIdxIfInBounds_toArray]
 ·have:=GR xs k;omega
def rCat:R2:=λx y H Q=>∃l b xs zs,x=.ref l/\y=.ref b/\H l=some (.lst xs)/\H b=some (.lst zs)/\xs.length+zs.length<=aJ/\∀p,H p=none->Q (.ref p) (upd H p (.lst (xs++zs)))
theorem VB:OpR X (cQ .Add) rCat:=by
 intro pins s σ H x y v u Q I rx ry h;obtain⟨l,b,xs,zs,rfl,rfl,hH,hB,hz,q⟩:=h;cases rx;cases ry;obtain⟨z,its,n,r,hl,e⟩:=I.lstM hH;obtain⟨z2,its2,n2,r2,hl2,e2⟩:=I.lstM hB;refine PySem.P.add_list e e2 ?_ (by rw[bp,bp];omega);have ea:its.toArray++its2.toArray=(its++its2).toArray:=by simp
 rw[ea];exact⟨.ref _,_,I.lnew (t':=s.toks) (r.append r2) (by rw[aC];omega),rfl,q _ I.fresh⟩
end
section
variable{prog:aV}{w:aL}{A:aS}{E:ae->ag->Prop}{s:ag}
set_option maxRecDepth 100000 in
end
section
variable{κ:Type}[DecidableEq κ]
def wy(kvs:List (κ×V))(k:κ):Option V:=(kvs.find? λkv=>decide (kv.1=k)).map (·.2)
def putK(kvs:List (κ×V))(k:κ)(v:V):List (κ×V):=
 if (kvs.any λkv=>decide (kv.1=k))=true then kvs.map (λkv=>if kv.1=k then (kv.1,v)else kv)else kvs++[(k,v)]
theorem B7{p:κ×V}(e:p.1=k):wy (p::r) k=some p.2:=by simp[wy,eB,e]
theorem B8{p:κ×V}(e:¬p.1=k):wy (p::r) k=wy r k:=by simp[wy,eB,e]
theorem E1(k:κ):∀kvs:List (κ×V),(kvs.any λkv=>decide (kv.1=k))=(wy kvs k).isSome
 |[]=>rfl
 |p::r=>by
  rw[eF];by_cases e:p.1=k
  ·simp only[B7 e,ba e,Bool.true_or,Option.isSome_some]
  ·rw[B8 e,aO e,oR];exact E1 k r
theorem yA(kvs:List (κ×V))(k:κ)(v:V):(putK kvs k v).length<=kvs.length+1:=by
 unfold putK;split
 ·rw[ah];omega
 ·rw[aC,aH,c6];omega
theorem OQ{kvs:List (κ×V)}{k:κ}(v:V)(h:wy kvs k=none):putK kvs k v=kvs++[(k,v)]:=by unfold putK;rw[E1,h];exact ao (by decide)
theorem Ai.isSome_eq(r:Ai o u):o.isSome=u.isSome:=by
 cases o with
 |none=>cases u with
  |none=>rfl
  |some _=>exact(show False from r).elim
 |some _=>cases u with
  |none=>exact(show False from r).elim
  |some _=>rfl
theorem Ai.getD(r:Ai o u)(rd:RelV d d'):RelV (o.getD d) (u.getD d'):=by
 cases o with
 |none=>cases u with
  |none=>exact rd
  |some _=>exact(show False from r).elim
 |some _=>cases u with
  |none=>exact(show False from r).elim
  |some _=>exact r
theorem KV.val(r:KV kvs vs)(k:κ):Ai (wy kvs k) (valueAt vs k):=by
 unfold KV at r
 induction r with
 |nil=>exact True.intro
 |@cons p q ps qs h t ih=>
  obtain⟨h1,h2⟩:=h;by_cases e:p.1=k
  ·have e':q.1=k:=h1.symm.trans e;have b:valueAt (q::qs) k=some q.2:=by simp[valueAt,eB,e']
   rw[B7 e,b];exact h2
  ·have e':¬q.1=k:=λz=>e (h1.trans z);have b:valueAt (q::qs) k=valueAt qs k:=by simp[valueAt,eB,e']
   rw[B8 e,b];exact ih
theorem KV.any(r:KV kvs vs)(k:κ):(kvs.any λkv=>decide (kv.1=k))=vs.any λkv=>decide (kv.1=k):=by
 unfold KV at r
 induction r with
 |nil=>rfl
 |cons h t ih=>rw[eF,eF,ih,h.1]
theorem KV.repl(r:KV kvs vs)(k:κ)(ry:RelV y u):
  KV (kvs.map λkv=>if kv.1=k then (kv.1,y)else kv) (vs.map λkv=>if kv.1=k then (kv.1,u)else kv):=by
 unfold KV at r ⊢
 induction r with
 |nil=>exact .nil
 |@cons p q ps qs h t ih=>
  rw[az,az];refine .cons ?_ ih;obtain⟨h1,h2⟩:=h;by_cases e:p.1=k
  ·rw[aj e,aj (h1.symm.trans e)];exact⟨h1,ry⟩
  ·rw[ao e,ao (λz=>e (h1.trans z))];exact⟨h1,h2⟩
theorem KV.put{kvs:List (κ×V)}{vs:List (κ×ae)}(r:KV kvs vs)(k:κ){y:V}{u:ae}(ry:RelV y u):KV (putK kvs k y) (stored vs k u):=by
 unfold putK stored;rw[r.any k];by_cases e:(vs.any λkv=>decide (kv.1=k))=true
 ·rw[aj e,aj e];exact r.repl k ry
 ·rw[ao e,ao e];exact pf r ⟨rfl,ry⟩
theorem KV.length(r:KV kvs vs):kvs.length=vs.length:=ko r
end
theorem Bn(r:RelV (kV k) u):(sQ P w).is k u=true:=by
 cases k with
 |inl i=>obtain⟨t,e⟩:=(show ∃t,u=Value.int i t from r);subst e;exact Jh P w i t
 |inr x=>obtain⟨t,e⟩:=(show ∃t,u=Value.str x t from r);subst e;exact Ji P w x t
theorem GT:∀{ks:List Key} {us:List ae},Vals (ks.map kV) us->ItemsAre (sQ P w) ks us
 |[],_,r=>by rw[bL]at r;cases r;exact .nil
 |k::ks,_,r=>by
  rw[az]at r;cases r with
  |cons h t=>exact .cons (Bn h) (GT t)
abbrev KT(H:Hp):List (List Key×V)->List (List Key×Addr×ae)->Prop:=fA λp q=>p.1=q.1/\H q.2.1=some (.tup (p.1.map kV))/\RelV p.2 q.2.2
theorem KT.val(r:KT H kvs xs)(k:List Key):Ai (wy kvs k) ((atKey xs k).map (·.2)):=by
 induction r with
 |nil=>exact True.intro
 |@cons p q ps qs h t ih=>
  obtain⟨h1,_,h2⟩:=h;by_cases e:p.1=k
  ·have e':q.1=k:=h1.symm.trans e;have b:atKey (q::qs) k=some q.2:=by simp[atKey,eB,e']
   rw[B7 e,b];exact h2
  ·have e':¬q.1=k:=λz=>e (h1.trans z);have b:atKey (q::qs) k=atKey qs k:=by simp[atKey,eB,e']
   rw[B8 e,b];exact ih
theorem KT.repl(r:KT H kvs xs)(k:List Key)(ry:RelV y u):
  KT H (kvs.map λkv=>if kv.1=k then (kv.1,y)else kv) (xs.map (putAt k u)):=by
 induction r with
 |nil=>exact .nil
 |@cons p q ps qs h t ih=>
  rw[az,az];refine .cons ?_ ih;obtain⟨h1,h2,h3⟩:=h;unfold putAt;by_cases e:p.1=k
  ·rw[aj e,aj (h1.symm.trans e)];exact⟨h1,h2,ry⟩
  ·rw[ao e,ao (λz=>e (h1.trans z))];exact⟨h1,h2,h3⟩
theorem KT.put{H:Hp}{kvs:List (List Key×V)}{xs:List (List Key×Addr×ae)}(r:KT H kvs xs)(k:List Key){b:Addr}{y:V}{u:ae}(hb:H b=some (.tup (k.map kV)))(ry:RelV y u):
  KT H (putK kvs k y) (storedH xs k b u):=by
 have e:(kvs.any λkv=>decide (kv.1=k))=(atKey xs k).isSome:=by rw[E1,(r.val k).isSome_eq,ny]
 unfold putK storedH;rw[e];by_cases q:(atKey xs k).isSome=true
 ·rw[aj q,aj q];exact r.repl k ry
 ·rw[ao q,ao q];exact pf r ⟨rfl,hb,ry⟩
theorem KT.keeps(r:KT H kvs xs)(ht:∀b ys,H b=some (.tup ys)->H' b=some (.tup ys)):KT H' kvs xs:=
 Paired.mapP r λ_ _ z=>⟨z.1,ht _ _ z.2.1,z.2.2⟩
section
variable{P:aV}{w:aL}{H:Hp}{h:Heap}{a:Addr}
theorem UC(ok:HOk P w H h)(e:Rd H a u):tY P w H h a u:=e.ok ok
theorem Bo(ok:HOk P w H h)(e:Rd H a (.dK kvs)):kvs.length<=aJ/\(a==cN)=false/\∃vs,KV kvs vs/\h.DictOf (sQ P w) a vs:=
 show tY P w H h a (.dK kvs) from UC ok e
theorem OR(ok:HOk P w H h)(e:H a=some (.dK kvs)):kvs.length<=aJ/\(a==cN)=false/\∃vs,KV kvs vs/\h.DictOf (sQ P w) a vs:=Bo ok (.inl e)
theorem CZ{ks:List Key}(ok:HOk P w H h)(e:H a=some (.tup (ks.map kV))):(tupleKind (sQ P w)).is h ks a:=by obtain⟨_,its,r,o,h1,h2,n,h3⟩:=(show tY P w H h a (.tup (ks.map kV)) from ok a _ e);exact⟨o,its.toArray,n,h1,h2,h3,by simpa using GT r⟩
theorem E2(ok:HOk P w H h)(e:Rd H a (.dT kvs)):kvs.length<=aJ/\(a==cN)=false/\
  ∃xs,KT H kvs xs/\h.DictOfH (tupleKind (sQ P w)) a xs:=by
 obtain⟨z,y,xs,r,o,es,ep,h1,h2,h3,h4,h5⟩:=(show tY P w H h a (.dT kvs) from UC ok e);refine⟨z,y,xs,r,o,es,ep,h1,h2,h3,h4,λx hx=>?_,h5⟩;have all:∀{l:List (List Key×V)} {m:List (List Key×Addr×ae)},KT H l m->∀x∈m,(tupleKind (sQ P w)).is h x.1 x.2.1:=by
  intro l m q
  induction q with
  |nil=>intro x hx;exact nomatch hx
  |@cons p q ps qs hq t ih=>
   intro x hx;rcases aN.mp hx with e|hx
   ·subst e;exact CZ ok (by rw[<-hq.1];exact hq.2.1)
   ·exact ih x hx
 exact all r x hx
theorem Zm(ok:HOk P w H h)(e:H a=some (.dT kvs)):kvs.length<=aJ/\(a==cN)=false/\
  ∃xs,KT H kvs xs/\h.DictOfH (tupleKind (sQ P w)) a xs:=E2 ok (.inl e)
end
def DGet(H:Hp)(a:Addr)(y:V)(r:Option V):Prop:=
 (∃kvs k,Rd H a (.dK kvs)/\y=kV k/\r=wy kvs k)\/∃kvs k b,Rd H a (.dT kvs)/\y=.ref b/\H b=some (.tup (k.map kV))/\r=wy kvs k
def OS(H:Hp)(a:Addr)(y v:V)(H':Hp):Prop:=
 (∃kvs k,H a=some (.dK kvs)/\y=kV k/\kvs.length<aJ/\H'=upd H a (.dK (putK kvs k v)))\/
 ∃kvs k b,H a=some (.dT kvs)/\y=.ref b/\H b=some (.tup (k.map kV))/\kvs.length<aJ/\H'=upd H a (.dT (putK kvs k v))
theorem OS.k{H:Hp}{a:Addr}{kvs:List (Key×V)}{k:Key}{v:V}(e:H a=some (.dK kvs))(hl:kvs.length<aJ):OS H a (kV k) v (upd H a (.dK (putK kvs k v))):=.inl ⟨kvs,k,e,rfl,hl,rfl⟩
section
variable{X:Cx}{pins:cH}{σ:St}{H:Hp}{s:ag}{a:Addr}{y v:V}{u r:ae}{o:Option V}{A:aS}{E:ae->ag->Prop}
theorem Inv.big(I:Inv X pins σ H s):cN<s.heap.objs.size:=by have h:aX<s.heap.objs.size:=(I.mod.glob.keeps I.bk).lt;exact Nat.lt_trans (by decide) h
theorem Nt(hu:A.units+1<cLine)(I:Inv X pins σ H s)(g:DGet H a y (some v))(ry:RelV y u)(h:∀w' s',Inv X pins σ H s'->RelV v w'->Q w' s'):
  ai (model X.prog X.w) A (getItem (.ref a) u) Q E s:=by
 rcases g with ⟨kvs,k,e,ey,l⟩|⟨kvs,k,b,e,ey,eb,l⟩
 ·subst ey;obtain⟨z,hd,vs,rel,dd⟩:=Bo I.hok e;obtain⟨w',hw,rw'⟩:=Ai.some_of (v:=v) (o:=valueAt vs k) (by rw[l];exact rel.val k);exact wpAny_getItem_of (Bn ry) dd.mapOf hw (h w' _ (I.tok _) rw')
 ·subst ey;cases (show u=Value.ref b from ry);obtain⟨z,hd,xs,rel,dd⟩:=E2 I.hok e;obtain⟨w',hw,rw'⟩:=Ai.some_of (v:=v) (o:=(atKey xs k).map (·.2)) (by rw[l];exact rel.val k)
  obtain⟨p,hp,hp2⟩:=Option.map_eq_some_iff.mp hw;refine wpAny_getItem_heap (gH hu) (CZ I.hok eb) dd hp ?_;rw[hp2];exact h w' _ (I.tok _) rw'
theorem d_in(hu:A.units+1<cLine)(I:Inv X pins σ H s)(g:DGet H a y o)(ry:RelV y u)(h:∀s',Inv X pins σ H s'->Q (.bool o.isSome) s'):
  ai (model X.prog X.w) A (br .In u (.ref a)) Q E s:=by
 rcases g with ⟨kvs,k,e,ey,l⟩|⟨kvs,k,b,e,ey,eb,l⟩
 ·subst ey;obtain⟨z,hd,vs,rel,dd⟩:=Bo I.hok e;refine wpAny_in_of (Bn ry) hd dd.mapOf ?_;rw[<-(rel.val k).isSome_eq,<- l];exact h _ (I.tok _)
 ·subst ey;cases (show u=Value.ref b from ry);obtain⟨z,hd,xs,rel,dd⟩:=E2 I.hok e;refine wpAny_in_heap (gH hu) (CZ I.hok eb) hd dd ?_;have q:=(rel.val k).isSome_eq;rw[ny]at q;rw[<-q,<- l];exact h _ (I.tok _)
theorem EG(I:Inv X pins σ H s)(mu:Mut (H a))(hs:fW a s.heap h')(he:∃q,h'.get? a=some q)(new:tY X.prog X.w (upd H a ob) h' a ob):
  Inv X pins σ (upd H a ob) { s with heap:=h',toks:=t' }:=
 I.write (x:=a) (e:=a) mu (.inl rfl) (λb q hb z=>(hs.2 b hb).trans z) he new
theorem K0{h':Heap}{kvs:List (Key×V)}(z:kvs.length<=aJ)(hd:(a==cN)=false)(rel:KV kvs vs)(dd:h'.DictOf (sQ P w) a vs):
  tY P w H' h' a (.dK kvs):=⟨z,hd,vs,rel,dd⟩
theorem Nu(hu:A.units+1<cLine)(I:Inv X pins σ H s)(g:OS H a y v H')(ry:RelV y u)(rv:RelV v r)(h:∀s',Inv X pins σ H' s'->Q () s'):
  ai (model X.prog X.w) A (setItem (.ref a) u r) Q E s:=by
 rcases g with ⟨kvs,k,e,ey,l,eH⟩|⟨kvs,k,b,e,ey,eb,l,eH⟩
 ·subst ey eH;obtain⟨z,hd,vs,rel,dd⟩:=OR I.hok e;have hz:vs.length<=aJ:=by rw[<-rel.length];exact z
  have hl:(putK kvs k v).length<=aJ:=by have:=yA kvs k v;omega
  refine wpAny_setItem_pairs (hsz:=hz) (Bn ry) dd λh' dd' hs=>h _ ?_;have he:∃q,h'.get? a=some q:=let ⟨q,_,_,hq,_⟩:=dd';⟨q,hq⟩;exact EG I (by rw[e];exact True.intro) hs he (K0 hl hd (rel.put k rv) dd')
 ·subst ey eH;cases (show u=Value.ref b from ry);obtain⟨z,hd,xs,rel,dd⟩:=Zm I.hok e;have hz:xs.length<=aJ:=by rw[<-ko rel];exact z
  have hl:(putK kvs k v).length<=aJ:=by have:=yA kvs k v;omega
  refine wpAny_setItem_heap (hsz:=hz) (gH hu) (CZ I.hok eb) dd λh' dd' hs=>h _ ?_;obtain⟨q,es,ep,hq,h2,h3,h4,_,h5⟩:=dd';refine EG I (by rw[e];exact True.intro) hs ⟨q,hq⟩ ⟨hl,hd,_,(rel.put k eb rv).keeps λc ys ec=>?_,q,es,ep,hq,h2,h3,h4,h5⟩;rw[su (YW ec e (λz=>nomatch z))];exact ec
end
section
variable{X:Cx}{pins:cH}{σ:St}{H:Hp}{s:ag}{a:Addr}{kvs:List (Key×V)}{k:Key}{u:ae}{A:aS}{E:ae->ag->Prop}
theorem Zn(I:Inv X pins σ H s)(e:Rd H a (.dK kvs))(h:∀t s',Inv X pins σ H s'->Q (.int kvs.length t) s'):ai (model X.prog X.w) A (call (.builtin "len") [.ref a]) Q E s:=by obtain⟨z,hd,vs,rel,dd⟩:=Bo I.hok e;refine call_len_dict hd dd (by rw[<-rel.length];rw[bR]at z;omega) ?_;rw[<-rel.length];exact h _ _ (I.tok _)
end
def VC(i:Expr):Prop:=∀ov iv,subscripted i false ov iv=operate [ov,iv] (getItem ov iv)
theorem RX{id:String}
  (hl:typeLookup (.type T) "__getitem__" = pure (some (.builtin id))) (hs:VC slice)
  (h:ai (model prog w) A (eval value env) (λo s₁=>ai (model prog w) A (eval slice env) (λi s₂=>s₂.TypeIs o T/\ai (model prog w) A (getItem o i) Q E s₂) E s₁) E s):
  ai (model prog w) A (eval (.Subscript value slice pos) env) Q E s:=by
 refine kX (bZ h (λo s₁ h₁=>bZ h₁ (λi s₂ h₂=>?_) λ_ _ x=>x) λ_ _ x=>x);obtain⟨hT,h₂⟩:=h₂;unfold subscriptTail;refine aq ?_;rw[getitemInPython_of_ne hT.not_modules];refine aq (ka hT hl ?_);have fin:ai (model prog w) A (subscripted slice false o i) (λr s₃=>ai (model prog w) A (letTemporaryGo value o r>>=λ_=>pure r) Q E s₃) E s₂:=by rw[hs o i];exact wpAny_operating (bZ h₂ (λr s₃ h₃=>aq (wpAny_letTemporaryGo (aB h₃))) λ_ _ x=>x)
 first
  |exact aB (aq fin)
  |exact aq (aB (aq fin))
  |exact aq fin
theorem Jr(I:Inv X pins σ H s)(g:DGet H a y o):s.TypeIs (.ref a) "dict" := by
 rcases g with ⟨kvs,k,e,_,_⟩|⟨kvs,k,b,e,_,_,_⟩
 ·obtain⟨_,_,vs,_,dd⟩:=Bo I.hok e;exact dd.typeIs
 ·obtain⟨_,_,xs,_,dd⟩:=E2 I.hok e;exact dd.typeIs
def Zo(td ty:TE):TE:=λσ H Q=>td σ H λx H1=>ty σ H1 λy H2=>∃a v,x=.ref a/\DGet H2 a y (some v)/\Q v H2
def Zp(ty td:TE):TE:=λσ H Q=>ty σ H λy H1=>td σ H1 λx H2=>∃a o,x=.ref a/\DGet H2 a y o/\Q (.bl o.isSome) H2
def UD(td ty tv:TE):TS:=λD σ H=>tv σ H λv H1=>td σ H1 λx H2=>ty σ H2 λy H3=>∃a H4,x=.ref a/\OS H3 a y v H4/\D.nx σ H4
section
variable{X:Cx}{o i e value:Expr}{pos pos' tpos:Pos}{td ty tv:TE}
theorem RY(hu:X.A.units+1<cLine)(ho:PE X o td)(hi:PE X i ty)(hs:VC i):PE X (.Subscript o i pos) (Zo td ty):=by intro pins s σ H Q I h;refine RX F.slot_dict_getitem.lookup hs (thn (ho pins s σ H _ I h) λu s1 ⟨x,H1,I1,rx,q1⟩=>thn (hi pins s1 σ H1 _ I1 q1) λiv s2 zz=>?_);obtain⟨y,H2,I2,ry,a,v,ex,g,q2⟩:=zz;subst ex;obtain rfl:u=Value.ref a:=rx;exact⟨Jr I2 g,Nt hu I2 g ry λw' s3 I3 rw'=>⟨v,H2,I3,rw',q2⟩⟩
theorem OT(hu:X.A.units+1<cLine)(hi:PE X i ty)(ho:PE X o td):PC X .In i o (Zp ty td):=by intro pins s σ H Q I h;refine thn (hi pins s σ H _ I h) λiv s1 ⟨y,H1,I1,ry,q1⟩=>thn (ho pins s1 σ H1 _ I1 q1) λu s2 zz=>?_;obtain⟨x,H2,I2,rx,a,ov,ex,g,q2⟩:=zz;subst ex;obtain rfl:u=Value.ref a:=rx;exact d_in hu I2 g ry λs3 I3=>⟨.bl ov.isSome,H2,I3,rfl,q2⟩
theorem RZ(hu:X.A.units+1<cLine)(ho:PE X o td)(hi:PE X i ty)(hv:PE X value tv)(hs:dt value (some (.Subscript o i pos')) pos.line X.env=pure false):
  PS X (.Assign [.Subscript o i pos'] value pos) (UD td ty tv):=by
 intro pins s σ H D I h;refine wpAny_Assign_Subscript (thn (hv pins s σ H _ I h) λr s1 ⟨v,H1,I1,rv,q1⟩=>thn (ho pins s1 σ H1 _ I1 q1) λu s2 ⟨x,H2,I2,rx,q2⟩=>thn (hi pins s2 σ H2 _ I2 q2) λiv s3 zz=>?_) hs;obtain⟨y,H3,I3,ry,a,H4,ex,g,q3⟩:=zz;subst ex;obtain rfl:u=Value.ref a:=rx;exact Nu hu I3 g ry rv λs4 I4=>⟨σ,H4,I4,q3⟩
end
theorem Js(h:Heap)(hb:cN<h.objs.size):tY P w H (h.push { cls:=.type "dict", data:=.dict #[] }) h.objs.size (.dK []):=
 ⟨cu _,beq_eq_false_iff_ne.mpr (c9 (bb hb)),[],.nil,rS h⟩
def K1:TE:=λ_ H Q=>∀p,H p=none->Q (.ref p) (upd H p (.dK []))
section
variable{X:Cx}{pos:Pos}
theorem E3:PE X (.Dict [] [] pos) K1:=λpins s σ H Q I h=>
 wpAny_Dict_empty ⟨.ref s.heap.objs.size,_,I.laid (a:=s.heap.objs.size) (o:=.dK []) (t':=s.toks) (λ_ _ q=>aM _ q) (aI _) (Js s.heap I.big),rfl,h _ (I.hok.fresh (aI _))⟩
end
def Il:List (TE×TE)->St->Hp->(List (V×V)->Hp->Prop)->Prop
 |[],_,H,Q=>Q [] H
 |(tk,tv)::r,σ,H,Q=>tk σ H λx H1=>tv σ H1 λy H2=>Il r σ H2 λps H3=>Q ((x,y)::ps) H3
abbrev VV:List (V×V)->List (ae×ae)->Prop:=fA λp q=>RelV p.1 q.1/\RelV p.2 q.2
def PPs(X:Cx)(pos:Pos)(keys:List (Option Expr))(values:List Expr)(trs:List (TE×TE)):Prop:=
 ∀(pins:cH) (s:ag) (σ:St) (H:Hp) (Q:List (V×V)->Hp->Prop),Inv X pins σ H s->Il trs σ H Q->
  ai (model X.prog X.w) X.A (evalPairs (pairTrees keys values X.env pos)) (λvs s'=>∃ps H',Inv X pins σ H' s'/\VV ps vs/\Q ps H') X.xe s
theorem R0:PPs X pos [] [] []:=λpins s σ H Q I h=>pairTrees_nil_walk ⟨[],H,I,.nil,h⟩
theorem OU{tk:TE}(hk:PE X k tk)(hv:PE X v tv)(hr:PPs X pos ks vs trs):
  PPs X pos (some k::ks) (v::vs) ((tk,tv)::trs):=λpins s σ H Q I h=>
 pairTrees_cons_walk (thn (hk pins s σ H _ I h) λu s1 ⟨x,H1,I1,rx,q1⟩=>thn (hv pins s1 σ H1 _ I1 q1) λw2 s2 ⟨y,H2,I2,ry,q2⟩=>
  thn (hr pins s2 σ H2 _ I2 q2) λws s3 ⟨ps,H3,I3,rel,q3⟩=>⟨(x,y)::ps,H3,I3,.cons ⟨rx,ry⟩ rel,q3⟩)
def An(kvs more:List (Key×V)):List (Key×V):=more.foldl (λacc kv=>putK acc kv.1 kv.2) kvs
theorem KV.merge:∀{more:List (Key×V)} {rs:List (Key×ae)} {kvs:List (Key×V)} {vs:List (Key×ae)},KV more rs->KV kvs vs->KV (An kvs more) (merged vs rs):=by
 intro more rs kvs vs r;unfold KV at r
 induction r generalizing kvs vs with
 |nil=>intro q;exact q
 |@cons p q ps qs h t ih=>
  intro r0;have e:KV (putK kvs p.1 p.2) (stored vs q.1 q.2):=by have:=r0.put p.1 h.2;rw[<-h.1];exact this
  exact ih e
theorem Bp:∀(more kvs:List (Key×V)),(An kvs more).length<=kvs.length+more.length
 |[],kvs=>by show kvs.length<=kvs.length+0;omega
 |p::r,kvs=>by have h1:=Bp r (putK kvs p.1 p.2);have h2:=yA kvs p.1 p.2;show (An (putK kvs p.1 p.2) r).length<=_;rw[aH];omega
theorem E4:∀{kvs:List (Key×V)} {ws:List (ae×ae)},VV (kvs.map λkv=>(kV kv.1,kv.2)) ws->∃rs,Carries (sQ P w) ws rs/\KV kvs rs
 |[],_,r=>by rw[bL]at r;cases r;exact⟨[],True.intro,.nil⟩
 |p::kvs,_,r=>by
  rw[az]at r;cases r with
  |@cons a b as bs h t=>obtain⟨rs,c,q⟩:=E4 (P:=P) (w:=w) t;obtain⟨b1,b2⟩:=b;exact⟨(p.1,b2)::rs,⟨Bn h.1,rfl,c⟩,.cons ⟨rfl,h.2⟩ q⟩
def OV(trs:List (TE×TE)):TE:=λσ H Q=>∀p,H p=none->Il trs σ (upd H p (.dK [])) λps H2=>H2 p=some (.dK [])/\∃kvs:List (Key×V),ps=kvs.map (λkv=>(kV kv.1,kv.2))/\kvs.length<=15/\Q (.ref p) (upd H2 p (.dK (An [] kvs)))
theorem R7(h:PPs X pos keys values trs)(hall:keys.all (·.isSome)=true)(hl:keys.length=values.length)(h0:keys≠[])
  (h15:keys.length<=15):PE X (.Dict keys values pos) (OV trs):=by
 intro pins s σ H Q I q;have hn:=I.hok.fresh (aI s.heap.objs.size);have I1:=I.laid (a:=s.heap.objs.size) (o:=.dK []) (h':=s.heap.push { cls:=.type "dict", data:=.dict #[] }) (t':=s.toks) (λ_ _ q=>aM _ q) (aI _) (Js s.heap I.big);refine wpAny_Dict_walk (knd:=sQ X.prog X.w) hall hl h0 h15 (thn (h pins _ σ _ _ I1 (q _ hn)) λws s2 zz=>?_);obtain⟨ps,H2,I2,rel,e,kvs,ep,lk,q2⟩:=zz;subst ep;obtain⟨rs,c,rk⟩:=E4 (P:=X.prog) (w:=X.w) rel;obtain⟨z,hd,vs0,r0,dd⟩:=OR I2.hok e;cases r0;refine⟨rs,c,dd,λh' dd' hs=>⟨.ref s.heap.objs.size,_,?_,rfl,q2⟩⟩;have hz:(An [] kvs).length<=aJ:=by have h1:=Bp kvs [];rw[c6]at h1;rw[bR];omega
 have he:∃q,h'.get? s.heap.objs.size=some q:=let ⟨q,_,_,hq,_⟩:=dd';⟨q,hq⟩;exact EG I2 (by rw[e];exact True.intro) hs he (K0 hz hd (rk.merge .nil) dd')
structure M1(X:Cx)(o:Expr)(m:Str)(apos:Pos)(e:Expr)(cpos:Pos):Prop where
 base:dH o m X.env (eval o X.env)=eval o X.env
 few:((bD cpos (aA [e] X.env)).all (λx=>!x.1)&&(backToKw cpos (dq [] X.env)).all (λx=>x.1.isSome)
  && decide (([e]:List Expr).length+([]:List eJ).length+(if ([]:List eJ).isEmpty then 0 else 1)<30))=true
 line:(apos.endLine==cpos.line)=true
 trees:bD cpos (aA [e] X.env)=[(false,eval e X.env)]
structure M2(X:Cx)(o:Expr)(m:Str)(apos:Pos)(e f:Expr)(cpos:Pos):Prop where
 base:dH o m X.env (eval o X.env)=eval o X.env
 few:((bD cpos (aA [e,f] X.env)).all (λx=>!x.1)&&(backToKw cpos (dq [] X.env)).all (λx=>x.1.isSome)
  && decide (([e,f]:List Expr).length+([]:List eJ).length+(if ([]:List eJ).isEmpty then 0 else 1)<30))=true
 line:(apos.endLine==cpos.line)=true
 trees:bD cpos (aA [e,f] X.env)=[(false,eval e X.env),(false,eval f X.env)]
def IsD(H:Hp)(a:Addr):Prop:=(∃kvs,Rd H a (.dK kvs))\/∃kvs,Rd H a (.dT kvs)
theorem Im(I:Inv X pins σ H s)(d:IsD H a):
  s.TypeIs (.ref a) "dict" /\ (∀b,Value.ref a=.ref b->∃ob,s.heap.get? b=some ob/\ob.dict=none)/\(a==cN)=false:=by
 rcases d with ⟨kvs,e⟩|⟨kvs,e⟩
 ·obtain⟨_,hd,vs,_,dd⟩:=Bo I.hok e;refine⟨dd.typeIs,λb q=>?_,hd⟩;cases q;obtain⟨ob,_,_,h1,h2,_⟩:=dd;exact⟨ob,h1,h2.2.1⟩
 ·obtain⟨_,hd,xs,_,dd⟩:=E2 I.hok e;refine⟨dd.typeIs,λb q=>?_,hd⟩;cases q;obtain⟨ob,_,_,h1,h2,_⟩:=dd;exact⟨ob,h1,h2.2.1⟩
section
variable{X:Cx}{pins:cH}{σ:St}{H:Hp}{s:ag}{a:Addr}{y d:V}{u r:ae}{o:Option V}{A:aS}{E:ae->ag->Prop}
theorem VD(hu:A.units+1<cLine)(I:Inv X pins σ H s)(g:DGet H a y o)(ry:RelV y u)(h:∀w' s',Inv X pins σ H s'->RelV (o.getD .non) w'->Q w' s'):
  ai (model X.prog X.w) A (call (.builtin "dict.get") [.ref a,u]) Q E s:=by
 rcases g with ⟨kvs,k,e,ey,l⟩|⟨kvs,k,b,e,ey,eb,l⟩
 ·subst ey;obtain⟨z,hd,vs,rel,dd⟩:=Bo I.hok e;refine fZ fS dd.typeIs iV (nz _ _) (meets_dict_get (sQ X.prog X.w) a (Bn ry) hd) ⟨_,dd.mapOf,h _ _ (I.tok _) ?_⟩;rw[l];exact(rel.val k).getD rfl
 ·subst ey;cases (show u=Value.ref b from ry);obtain⟨z,hd,xs,rel,dd⟩:=E2 I.hok e;refine fZ fS dd.typeIs iV (nz _ _) (meetsH_dict_get (tupleKind (sQ X.prog X.w)) a b hd) ⟨gH hu,k,xs,CZ I.hok eb,dd,h _ _ (I.tok _) ?_⟩;rw[l];exact(rel.val k).getD rfl
theorem VE(hu:A.units+1<cLine)(I:Inv X pins σ H s)(g:DGet H a y o)(ry:RelV y u)(rd:RelV d r)(h:∀w' s',Inv X pins σ H s'->RelV (o.getD d) w'->Q w' s'):
  ai (model X.prog X.w) A (call (.builtin "dict.get") [.ref a,u,r]) Q E s:=by
 rcases g with ⟨kvs,k,e,ey,l⟩|⟨kvs,k,b,e,ey,eb,l⟩
 ·subst ey;obtain⟨z,hd,vs,rel,dd⟩:=Bo I.hok e;refine fZ fS dd.typeIs iV (nD _ _ _) (meets_dict_get_default (sQ X.prog X.w) a (Bn ry) hd r) ⟨_,dd.mapOf,h _ _ (I.tok _) ?_⟩;rw[l];exact(rel.val k).getD rd
 ·subst ey;cases (show u=Value.ref b from ry);obtain⟨z,hd,xs,rel,dd⟩:=E2 I.hok e;refine fZ fS dd.typeIs iV (nD _ _ _) (meetsH_dict_get_default (tupleKind (sQ X.prog X.w)) a b hd r) ⟨gH hu,k,xs,CZ I.hok eb,dd,h _ _ (I.tok _) ?_⟩;rw[l];exact(rel.val k).getD rd
end
def VF(td ty:TE):TE:=λσ H Q=>td σ H λx H1=>∃a,x=.ref a/\IsD H1 a/\ty σ H1 λy H2=>∃o,DGet H2 a y o/\Q (o.getD .non) H2
def VG(td ty tx:TE):TE:=λσ H Q=>td σ H λx H1=>∃a,x=.ref a/\IsD H1 a/\ty σ H1 λy H2=>tx σ H2 λz H3=>∃o,DGet H3 a y o/\Q (o.getD z) H3
section
variable{X:Cx}{o e f:Expr}{apos cpos:Pos}{td ty tx:TE}
theorem OW(hu:X.A.units+1<cLine)(ho:PE X o td)(he:PE X e ty)(m:M1 X o "get" apos e cpos):PE X (.Call (.Attribute o "get" apos) [e] [] cpos) (VF td ty):=by intro pins s σ H Q I h;refine j7 m.base m.few m.line iQ fS nW (thn (ho pins s σ H _ I h) λu s1 zz=>?_);obtain⟨x,H1,I1,rx,a,ex,d,q1⟩:=zz;subst ex;obtain rfl:u=Value.ref a:=rx;obtain⟨t1,t2,_⟩:=Im I1 d;refine⟨t1,t2,?_⟩;rw[m.trees];refine gz rfl (iM (eX (thn (he pins s1 σ H1 _ I1 q1) λiv s2 ⟨y,H2,I2,ry,ov,g,q2⟩=>gQ ?_)));exact VD hu I2 g ry λw' s3 I3 rw'=>⟨_,H2,I3,rw',q2⟩
theorem OX(hu:X.A.units+1<cLine)(ho:PE X o td)(he:PE X e ty)(hf:PE X f tx)(m:M2 X o "get" apos e f cpos):PE X (.Call (.Attribute o "get" apos) [e,f] [] cpos) (VG td ty tx):=by
 intro pins s σ H Q I h;refine j7 m.base m.few m.line iQ fS nW (thn (ho pins s σ H _ I h) λu s1 zz=>?_);obtain⟨x,H1,I1,rx,a,ex,d,q1⟩:=zz;subst ex;obtain rfl:u=Value.ref a:=rx;obtain⟨t1,t2,_⟩:=Im I1 d;refine⟨t1,t2,?_⟩;rw[m.trees];refine gz rfl (iM (eX (thn (he pins s1 σ H1 _ I1 q1) λiv s2 ⟨y,H2,I2,ry,q2⟩=>
  eX (thn (hf pins s2 σ H2 _ I2 q2) λfv s3 ⟨z,H3,I3,rz,ov,g,q3⟩=>gQ ?_))))
 exact VE hu I3 g ry rz λw' s4 I4 rw'=>⟨_,H3,I4,rw',q3⟩
end
end L2
namespace Att
open PySem PySem.W PySem.Calls PyProof.Rows
theorem Ey:∀(ns:List Int) (vs:List ae),WellAll P h vs (ns.map WData.int)->hZ vs ns:=by
 intro ns
 induction ns with
 |nil=>intro vs w;rw[bL]at w;cases w;exact .nil
 |cons n ns ih=>
  intro vs w;rw[az]at w;cases w with
  |cons a b=>cases a;exact .cons _ _ (ih _ b)
theorem Nv{l:f7}(hn:l.most=some n)
  (hpre:l.row.toRowW.claim.pre args=true) (hwl:WellAll P h vals args):
  ∃a vs ns,vals=[Value.ref a]/\args=[WData.list (ns.map WData.int)]/\h.get? a=some { cls:=.type "list", data:=.seq vs.toArray }/\hZ vs ns/\ns.length<=n:=by
 have hsh:WShape.hasAll [] args [.list .int]=true:=(pre_splitW hpre).1;have hc:l.pre.holds [] { args:=args }=true:=(pre_splitW hpre).2;obtain⟨d,r,rfl,h1,h2⟩:=hasAllW_cons hsh;obtain rfl:=hasAllW_nil h2;obtain⟨xs,rfl,h3⟩:=hasW_list h1;obtain⟨ns,rfl⟩:=items_int h3;have hlen:ns.length<=n:=by
  unfold OpenLaw.pre at hc;have h4:(WTm.not (.lt (.lit (.int (n:Int))) (.len (.arg 0)))).holds [] { args:=[.list (ns.map .int)] }=true:=by have h4:=(holds_andW hc).1;rw[hn]at h4;exact h4
  have h5:=condW_of h4 (w_not (w_lt w_lit (w_len_list (w_arg rfl))));rw[ah]at h5;refine nP λq=>?_;have q':(n:Int)<((ns.length:Nat):Int):=by omega
  first
   |(rw[ba q']at h5;exact au h5 (by decide))
   |(simp at h5;omega)
 cases hwl with
 |cons w1 w2=>
  cases w2;cases w1 with
  |list ho hall=>exact⟨_,_,ns,rfl,rfl,ho,Ey ns _ hall,hlen⟩
theorem Nw(l:f7)(args:List WData):l.row.toRowW.claim.post args (.bool true) args=true:=
 postW_of (r:=l.row.toRowW) (X:=(true==true))
  (show pA [] (.bool true) .bool=true by first|rfl|decide|simp[pA,WShape.arms,WShape.armsAll])
  (show (WTm.eq .res (.lit (.bool true))).value [] { args:=args,res:=some (.bool true),after:=args }=some (.bool (true==true)) from w_eq_bool (w_res rfl) w_lit) rfl
theorem attach_call{l:f7}{d:DefRec}
  (hn:l.most=some n) (hdf:d.params.defaults=[])
  (call:∀(w:aL) (s₀ s₁:ag) (mg mb:Str->Option ae) (fa:Addr) (o:Obj) (pm cd doc:ae) (a:Addr) (vs:List ae) (ns:List Int),
   Ground q loose [] XP w s₀ mg mb s₁.heap->YP w s₁.heap->
   s₁.heap.get? fa=some o->o.data=.func (docDef d.name d.params d.body d.scope pm cd doc)->s₁.heap.CodeRec cd d.name->mg d.name=some (.ref fa)->
   s₁.heap.get? a=some { cls:=.type "list", data:=.seq vs.toArray }->hZ vs ns->ns.length<=n->s₁.gens=#[]->
   ck (model l.prog w) callerA (.call (.ref fa) ⟨[.ref a],[]⟩) (λr s'=>r=.ok (.ret (.bool true))/\OldK s₁.heap s'.heap/\s'.os=s₁.os/\dN s'.gens) s₁):
  WalkO q loose XP YP l.row.toRowW d [] (λf vs=>kZ f vs):=by
 intro w s₀ s₁ mg mb G Y fa o pm cd doc dV kV ho hd hcd hD hmg hg args vals as hpre hlay hrd hwl hlo;obtain rfl:dV=.none:=Dflts.none hD hdf;obtain rfl:kV=.none:=Dflts.noKw hD;obtain⟨a,vs,ns,rfl,rfl,hobj,hints,hlen⟩:=Nv hn hpre hwl;refine enter_call (fY (call w s₀ s₁ mg mb fa o pm cd doc a vs ns G Y ho (fd_plain hd) hcd hmg hobj hints hlen hg) λr s' hq=>?_);obtain⟨rfl,h2,h3,h4⟩:=hq;exact⟨.inl ⟨.bool true,.bool true,[],rfl,λ_=>rfl,.bool true,Nw l _,λ_=>⟨List.Pairwise.nil,λ_ hm=>(nomatch hm)⟩⟩,h2,h3,h4⟩
end Att
namespace L2
open PySem PySem.Spec PyProof.Rows
theorem GU:∀{vs:List ae} {ns:List Int},hZ vs ns->Vals (ns.map V.int) vs
 |_,_,.nil=>.nil
 |_,_,.cons n t h=>.cons ⟨t,rfl⟩ (GU h)
def VH(H:Hp):Prop:=∀b,H b=none\/∃o xs,H b=some (.frz o (.lst xs))
theorem OY{K:ay}{s₁:ag}{vs:List ae}
  (KX:K.In s₁.heap) (hns:s₁.heap.Ns aX mg) (hb:s₁.heap.Ns builtinsNs mb) (hbb:∀x:Str,x≠"__name__" -> mb x=di x) (hlim:s₁.heap.NoLimit) (hg:s₁.gens=#[])
  (ha:s₁.heap.get? a=some { cls:=.type "list", data:=.seq vs.toArray }) (hi:hZ vs ns) (hl:ns.length<=aJ) (hr:uy k callerA)
  (F:∀base:Heap,K.In base->base.Ns aX mg->wx P w K mg base CX k fa fd [x] sp) (hbind:∀(s:ag) (u:ae),f9 s fd ⟨[u],[]⟩ [(x,u)])
  (hsp:∀H:Hp,VH H->SqL K H a (ns.map V.int)->sp [.ref a] H (λv _=>v=.bl true) λ_ _ _=>False)
  (hCX:∀H e s',CX [] H s₁ (λ_ _ _=>False) e s'->False):
  ck (model P w) callerA (.call (.ref fa) ⟨[.ref a],[]⟩) (λr s'=>r=.ok (.ret (.bool true))/\OldK s₁.heap s'.heap/\s'.os=s₁.os/\dN s'.gens) s₁:=by
 have rv:=GU hi;have lenV:=hi.length;have core:∀H:Hp,VH H->SqL K H a (ns.map V.int)->HOk P w H s₁.heap->(∀b,H b≠none->b=a)->(H a≠none->K.lookup a=none)->
   ck (model P w) callerA (.call (.ref fa) ⟨[.ref a],[]⟩) (λr s'=>r=.ok (.ret (.bool true))/\OldK s₁.heap s'.heap/\s'.os=s₁.os/\dN s'.gens) s₁:=by
  intro H hO hS hok hA hK;have base_of:∀{b:Addr} {o:Obj},s₁.heap.get? b=some o->H b=none->(HX s₁.heap H).get? b=some o:=λe n=>Ou e n;have noA:∀{b:Addr} {o:Obj} {es:Array DictEntry} {ep:Nat},s₁.heap.get? b=some o->o.data=.dict es ep->H b=none:=λ{b o es ep} e d=>by
   cases q:H b with
   |none=>rfl
   |some u=>have e':b=a:=hA b (by rw[q];simp);subst e';rw[ha]at e;cases e;have d':Data.seq vs.toArray _=Data.dict es ep:=d;cases d'
  have nsK:∀{b:Addr} {m:Str->Option ae},s₁.heap.Ns b m->(HX s₁.heap H).Ns b m:=λ{b m} ⟨o,es,ep,e,d,r⟩=>⟨o,es,ep,base_of e (noA e d),d,r⟩;have hKb:K.In (HX s₁.heap H):=λb o e=>base_of (KX b o e) (by
   cases q:H b with
   |none=>rfl
   |some u=>
    have e':b=a:=hA b (by rw[q];simp);subst e';rw[hK (by rw[q];simp)]at e;cases e)
  have hM:Mod K mg (HX s₁.heap H):=⟨hKb,nsK hns,⟨mb,nsK hb,hbb⟩,let ⟨mc,h1,h2⟩:=hlim;⟨mc,nsK h1,h2⟩⟩;have e0:KU P w K mg (HX s₁.heap H) callerA [] s₁ H:=⟨rfl,hM,λb o e=>Rv e,kE (Nc _ _),trivial,λb hb=>au (show b∈([]:List Addr) from hb) (by simp),hok,.of_eq hg⟩;refine fY ((F _ hKb (nsK hns)).run callerA [] s₁ H ⟨[.ref a],[]⟩ [.ref a] [.ref a] _ _ hr e0 (hbind s₁ (.ref a)) (.cons rfl .nil) (hsp H hO hS)) λr s' h=>?_;cases r with
  |error e=>exact(hCX H e s' h).elim
  |ok fl=>
   cases fl with
   |next=>exact cO h
   |brk=>exact cO h
   |cont=>exact cO h
   |ret u=>
    obtain⟨v,H',os,bare,un,hok',r',q⟩:=h;have q':v=.bl true:=q;subst q';obtain rfl:u=Value.bool true:=r';refine⟨rfl,OldK.of_keep λb o e=>?_,os,bare⟩;cases q:H b with
    |none=>exact un.keep b o e q (by intro z;exact au (show b∈([]:List Addr) from z) (by simp)) (by simp)
    |some u=>
     rcases hO b with z|⟨ob,xs,z⟩
     ·rw[q]at z;cases z
     ·have z2:=un.frzs b ob _ z;obtain⟨e1,_⟩:=hok b _ z;obtain⟨e2,_⟩:=hok' b _ z2;rw[e]at e1;cases e1;exact e2
 cases hk:K.lookup a with
 |some o=>have e:=KX a o hk;rw[ha]at e;cases e;refine core (λ_=>none) (λ_=>.inl rfl) (.inr ⟨_,vs.toArray,_,hk,rfl,rfl,rfl,by rw[bp,lenV];exact hl,by simpa using rv⟩) (λb u z=>by have z':(none:Option HO)=some u:=z;cases z') (λb z=>au rfl z) λz=>au rfl z
 |none=>
  refine core (λb=>if b=a then some (.frz { cls:=.type "list", data:=.seq vs.toArray } (.lst (ns.map V.int)))else none) (λb=>?_) (.inl (.inr ⟨{ cls:=.type "list", data:=.seq vs.toArray },aj rfl⟩)) (λb u z=>?_) (λb z=>?_) λ_=>hk
  ·by_cases hb:b=a
   ·exact .inr ⟨_,_,aj hb⟩
   ·exact .inl (ao hb)
  ·by_cases hb:b=a
   ·have z':=(aj hb).symm.trans z;cases z';subst hb;exact⟨ha,by rw[ah];exact hl,vs,_,rv,ha⟩
   ·have z':=(ao hb).symm.trans z;cases z'
  ·by_cases hb:b=a
   ·exact hb
   ·exact au (ao hb) z
theorem R8{l:f7}{n k:Nat}{q:aV}{loose:aF}{XP:(Str->Option ae)->Heap->Prop}{YP:aL->Heap->Prop}{d:DefRec}{K:Params->ay}{CX:aL->CXT}{sp:aL->Sp}{x:Str}
  (hn:l.most=some n) (hn2:n<=aJ) (hdf:d.params.defaults=[]) (hr:uy k callerA)
  (hY:∀(w:aL) (h:Heap),YP w h->(K w.params).In h)
  (F:∀(w:aL) (mg:Str->Option ae) (fa:Addr) (h:Heap),(K w.params).In h->h.Ns aX mg->mg d.name=some (.ref fa)->
   ∃fd:cb,(∀(s:ag) (u:ae),f9 s fd ⟨[u],[]⟩ [(x,u)])/\
    ∀base:Heap,(K w.params).In base->base.Ns aX mg->wx l.prog w (K w.params) mg base (CX w) k fa fd [x] (sp w))
  (hsp:∀(w:aL) (H:Hp) (a:Addr) (ns:List Int),ns.length<=n->VH H->SqL (K w.params) H a (ns.map V.int)->sp w [.ref a] H (λv _=>v=.bl true) λ_ _ _=>False)
  (hCX:∀(w:aL) (H:Hp) (s:ag) (e:ae) (s':ag),CX w [] H s (λ_ _ _=>False) e s'->False):
  W.WalkO q loose XP YP l.row.toRowW d [] (λf vs=>kZ f vs):=by
 refine Att.attach_call hn hdf λw s₀ s₁ mg mb fa o pm cd doc a vs ns G Y ho hd hcd hmg hobj hints hlen hg=>?_;have KX:=hY w _ Y;obtain⟨fd,hb,hF⟩:=F w mg fa _ KX G.T.g hmg;exact OY KX G.T.g G.T.b G.T.builtins G.T.nolimit hg hobj hints (bQ hlen hn2) hr hF hb (λH hO hS=>hsp w H a ns hlen hO hS) λH e s'=>hCX w H s₁ e s'
def inClass(s:Stmt)(j:Nat):Stmt:=match s with
 |.ClassDef _ _ _ body _ _ _ _ _ _ _=>body.getD j (.Pass ⟨0,0,0,0⟩)
 |_=>.Pass ⟨0,0,0,0⟩
def wz(s:Stmt):Arguments:=match s with
 |.FunctionDef _ a _ _ _ _ _ _ _ _=>a
 |_=>{ posonlyargs:=[],args:=[],vararg:=none,kwonlyargs:=[],kw_defaults:=[],kwarg:=none,defaults:=[] }
def tG(s:Stmt):List Stmt:=match s with
 |.FunctionDef _ _ b _ _ _ _ _ _ _=>b
 |_=>[]
def sM(s:Stmt):cR:=match s with
 |.FunctionDef _ _ _ _ _ _ sc _ _ _=>sc
 |_=>{ kind:=.function,names:=[],isGenerator:=false,isCoroutine:=false }
abbrev CX0:CXT:=λ_ _ _ _ _ _=>False
abbrev E0:XK:=λ_ _ _=>False
theorem DL:Passes CX0 X E0:=λ_ _ _ _ _ _ _ h=>h.elim
structure Fun(K:ay)(x qual:Str)(st:Stmt)(f:Addr)(fd:cb):Prop where
 ex:∃(oc:ae) (od:Option Addr) (kV doc pm:ae) (an:Option Addr) (cdv ct:ae) (osl:Array (Option ae)),
  fd=dO x qual (wz st) (tG st) (sM st) .none kV doc pm an cdv ct/\K.lookup f=some ⟨oc,od,.func fd,osl⟩/\f6 K cdv qual=true
 kp:du K (.ref f)=true
section
variable{P:aV}{w:aL}{K:ay}{mg:Str->Option ae}{base:Heap}
theorem Fun.ok{st:Stmt}(F:Fun K x qual st f fd)(S:uu N ps (sM st))(len:∀vs H Q E,sp vs H Q E->vs.length=ps.length)
  (hbody:∀(cdv:ae) (A:aS) (outer:List Env) (s:ag) (H:Hp) (vs:bI) (Q:VK) (E:XK),uy k (A.deeper (envOfC qual (sM st) s.heap.objs.size f cdv))->sp vs H Q E->
   ∃t,PSs (Jm CX0 P w K mg base N qual (sM st) f cdv A outer s H E).nox (tG st) t/\t { nx:=λ_ H'=>Q .non H',rt:=Q } (start N vs) H):wx P w K mg base CX0 (k+1) f fd ps sp:=by
 obtain⟨oc,od,kV,doc,pm,an,cdv,ct,osl,rfl,lk,hcd⟩:=F.ex;refine UA lk hcd S len λA outer s H vs Q E hr hsp=>?_;obtain⟨t,h,q⟩:=hbody cdv A outer s H vs Q E hr hsp;exact⟨t,h.nox,q⟩
theorem Fun.binds{st:Stmt}{ps:aF}(F:Fun K x qual st f fd)
  (h:∀(kV doc pm:ae) (an:Option Addr) (cdv ct:ae) (us:List ae),us.length=ps.length->bindArgs (dO x qual (wz st) (tG st) (sM st) .none kV doc pm an cdv ct) ⟨us,[]⟩=pure (ps.zip us)):Binds K fd ps []:=by
 obtain⟨oc,od,kV,doc,pm,an,cdv,ct,osl,rfl,lk,hcd⟩:=F.ex;exact .all (h kV doc pm an cdv ct)
end
theorem GV(hr:uy k A):A.units+1<cLine:=j4 (Nat.add_le_add_left (by decide:1<=64) _) hr.units
theorem A6(h:n<=1000):n<aJ:=j4 h (by decide)
section
variable{X:Cx}
theorem pv(i:Nat)(hN:X.N[i]?=some x:=by rfl)(hv:Vis X.env.scope x:=by first|exact Or.inl rfl|exact Or.inr (Or.inl rfl)|exact Or.inr (Or.inr rfl))(hd:(x==("__debug__" : Str))=false:=by decide)
  (hcd:(x==("__classdict__" : Str))=false:=by decide):PE X (.Name x pos) (yL i):=U1 hN hv hd hcd
end
theorem Io{A B:Prop}(h:B):if false=true then A else B:=by rw[ao bA];exact h
theorem Ip{A B:Prop}(h:A):if true=true then A else B:=by rw[aj rfl];exact h
def sA(H H':Hp):Prop:=∀b o,H b=some o->H' b=some o
theorem sA.refl(H:Hp):sA H H:=λ_ _ h=>h
theorem sA.trans(a:sA H H1)(b:sA H1 H2):sA H H2:=λc o h=>b c o (a c o h)
theorem sA.seq{K:ay}(e:sA H H')(h:SqL K H a xs):SqL K H' a xs:=by
 rcases h with (h|⟨o,h⟩)|h
 ·exact .inl (.inl (e _ _ h))
 ·exact .inl (.inr ⟨o,e _ _ h⟩)
 ·exact .inr h
end L2
set_option maxHeartbeats 4000000
namespace L3
open PySem PySem.Spec PyProof.Rows L2
abbrev St:=L2.St
theorem E5{α β:Type}{f:α->β->Sem (ForInStep β)}{g:β->α->β}:∀(l:List α) (b:β),(∀x∈l,∀c,f x c=pure (ForInStep.yield (g c x)))->(forIn l b f:Sem β)=pure (l.foldl g b)
 |[],b,_=>by simp
 |x::r,b,h=>by rw[List.forIn_cons,h x aY b];show (forIn r (g b x) f:Sem β)=_;rw[E5 r (g b x) λy hy c=>h y (bo _ hy) c];rfl
def zZ(cells:List (Str×Addr))(cs:List (Str×Addr))(x:Str×dv):List (Str×Addr):=if (x.2==NameKind.free)=true then (x.1,(cells.lookup x.1).getD 0)::cs else cs
def xB(cells:List (Str×Addr))(names:List (Str×dv)):List (Str×Addr):=names.foldl (zZ cells) []
theorem Gv{scope:cR}{env:Env}(h:∀x∈scope.names,x.2=.free->∃c,env.cells.lookup x.1=some c):
  closureFor scope env=pure (xB env.cells scope.names):=by
 simp only[closureFor];rw[E5 (g:=zZ env.cells) scope.names [] λx hx c=>by
  obtain⟨n,k⟩:=x;by_cases hk:k=.free
  ·subst hk;obtain⟨a,e⟩:=h _ hx rfl;have e':env.cells.lookup n=some a:=e;simp only[zZ,cellOf,e',beq_self_eq_true,if_true,nQ];rfl
  ·have hb:(k==NameKind.free)=false:=by simpa using hk
   simp only[zZ,hb,eY,if_false]]
 rfl
theorem Jt{cells:List (Str×Addr)}:∀(names:List (Str×dv)) (acc:List (Str×Addr)),(∀x∈names,x.2=.free->∃c,cells.lookup x.1=some c)->(∀x c,acc.lookup x=some c->cells.lookup x=some c)->
  ∀x c,(names.foldl (zZ cells) acc).lookup x=some c->cells.lookup x=some c
 |[],acc,_,ha,x,c,e=>ha x c e
 |y::r,acc,h,ha,x,c,e=>by
  refine Jt r (zZ cells acc y) (λz hz=>h z (bo _ hz)) (λz d ez=>?_) x c e;obtain⟨n,k⟩:=y;unfold zZ at ez;split at ez
  ·rename_i hk;obtain⟨a,ea⟩:=h (n,k) aY (by simpa using hk);have ea':cells.lookup n=some a:=ea;rw[eA]at ez;cases hb:z==n with
   |true=>rw[hb]at ez;have ez':some ((cells.lookup n).getD 0)=some d:=ez;rw[ea']at ez';rw[fz hb,ea'];exact ez'
   |false=>rw[hb]at ez;exact ha z d ez
  ·exact ha z d ez
theorem GW:∀(names:List (Str×dv)) (acc:List (Str×Addr)) (x:Str),(∃c,acc.lookup x=some c)->∃c,(names.foldl (zZ cells) acc).lookup x=some c
 |[],_,_,h=>h
 |y::r,acc,x,h=>by
  refine GW r (zZ cells acc y) x ?_;unfold zZ;split
  ·rw[eA];cases x==y.1 with
   |true=>exact⟨_,rfl⟩
   |false=>exact h
  ·exact h
theorem E6:∀(names:List (Str×dv)) (acc:List (Str×Addr)) (x:Str),(x,NameKind.free)∈names->∃c,(names.foldl (zZ cells) acc).lookup x=some c
 |[],_,_,h=>by cases h
 |y::r,acc,x,h=>by
  rcases aN.mp h with e|h
  ·subst e;refine GW r _ x ?_;unfold zZ;rw[aj (by simp),eA];simp
  ·exact E6 r _ x h
theorem zp{env:Env}(x:Str):∀(names:List (Str×dv)),
  (names.map λ(n,k)=>if (k==NameKind.free&&env.scope.kind==.function&&env.kindOf n==some .cell)then (n,NameKind.cell)else (n,k)).lookup x=
   (names.lookup x).map λk=>if (k==NameKind.free&&env.scope.kind==.function&&env.kindOf x==some .cell)=true then NameKind.cell else k
 |[]=>rfl
 |(n,k)::r=>by
  have ih:=zp (env:=env) x r;rw[az,eA (k:=n)];show c7 x ((if (k==NameKind.free&&env.scope.kind==.function&&env.kindOf n==some .cell)=true then (n,NameKind.cell)else (n,k))::_)=_;cases hx:x==n with
  |true=>
   have e:=fz hx;subst e;split
   ·rename_i hc;simp only[eA,hx,fi,hc,if_true]
   ·rename_i hc;simp only[eA,hx,fi];rw[ao hc]
  |false=>
   rw[<-ih];split
   ·simp only[eA,hx]
   ·simp only[eA,hx]
theorem K2{scope:cR}(hcell:∀y∈scope.names,y.2≠.cell)(h:(relabel scope env).names.lookup x=some .cell\/(relabel scope env).names.lookup x=some .free):(x,NameKind.free)∈scope.names:=by
 have e:=zp (env:=env) x scope.names;have h':(scope.names.lookup x).map (λk=>if (k==NameKind.free&&env.scope.kind==.function&&env.kindOf x==some .cell)=true then NameKind.cell else k)=some .cell\/
   (scope.names.lookup x).map (λk=>if (k==NameKind.free&&env.scope.kind==.function&&env.kindOf x==some .cell)=true then NameKind.cell else k)=some .free:=by
  rw[<-e];exact h
 cases q:scope.names.lookup x with
 |none=>rw[q]at h';rcases h' with z|z<;>cases z
 |some k=>
  rw[q]at h';have hm:=mem_of_lookup q;have hc:=hcell _ hm;cases k with
  |free=>exact hm
  |cell=>exact au rfl hc
  |_=>rcases h' with z|z<;>cases z
theorem Gw{scope:cR}(h:scope.names.lookup x=some .free):(relabel scope env).names.lookup x=some .cell\/(relabel scope env).names.lookup x=some .free:=by
 have e:=zp (env:=env) x scope.names;have e':(relabel scope env).names.lookup x=(scope.names.lookup x).map λk=>if (k==NameKind.free&&env.scope.kind==.function&&env.kindOf x==some .cell)=true then NameKind.cell else k:=e
 rw[e',h,fi];split
 ·exact .inl rfl
 ·exact .inr rfl
def uz(X:Cx)(N':aF)(scope:cR)(cl:List (Str×Addr))(C:Addr)(fp:List Addr)(s:ag)(H:Hp):Cx:=
 { X with N:=N',s₀:=s,H₀:=H,env:=compEnvC scope cl C X.env,outer:=X.stack,ex:=fp,fn:=λ_=>false,pn:=[],xe:=λ_ _=>False }
def PIf(X:Cx)(ifs:List Expr)(t:TT):Prop:=
 ∀(pins:cH) (s:ag) (σ:St) (H:Hp) (Q:Bool->Hp->Prop),Inv X pins σ H s->t σ H Q->
  ai (model X.prog X.w) X.A (forIn ifs true λc r=>if r=true then do let ok<-isTrue c X.env (eval c X.env);pure (ForInStep.yield ok)else pure (ForInStep.yield r)) (TP X pins σ Q) X.xe s
def tIf0:TT:=λ_ H Q=>Q true H
theorem R9:PIf X [] tIf0:=λ_ _ _ H _ I h=>wpAny_tests_nil ⟨H,I,h⟩
theorem Sa(h:PT X c t):PIf X [c] t:=λpins s σ H Q I hq=>wpAny_tests_one (h pins s σ H Q I hq)
section
variable{prog:aV}{w:aL}{A:aS}{R:gb->ag->Prop}{s:ag}
theorem Iq(J:Nat->ag->Prop)
  (turn:∀n s,J n s->ai (model prog w) A (pyNext it) (λr s₁=>match r with
   |none=>R (.ok .next) s₁
   |some v=>ai (model prog w) A (fR target it v) (λ_ s₁'=>ai (model prog w) A (assign target env v) (λ_ s₂=>
     ai (model prog w) A (forIn ifs true λc r=>if r=true then do let ok<-isTrue c env (eval c env);pure (ForInStep.yield ok)else pure (ForInStep.yield r)) (λok s₃=>
      if ok=true then ai (model prog w) A (eval elt env) (λx s₄=>
       ai (model prog w) A (call (.builtin "list.append") [acc,x]) (λ_ s₅=>∃m,m<n/\J m s₅) (notedBy (model prog w) A env λe s'=>R (.error e) s') s₄) (notedBy (model prog w) A env λe s'=>R (.error e) s') s₃
      else ∃m,m<n/\J m s₃) (notedBy (model prog w) A env λe s'=>R (.error e) s') s₂) (notedBy (model prog w) A env λe s'=>R (.error e) s') s₁')
      (notedBy (model prog w) A env λe s'=>R (.error e) s') s₁) (notedBy (model prog w) A env λe s'=>R (.error e) s') s)
  (n:Nat) (h:J n s):
  ck (model prog w) A (.compLoop (.ListComp elt [⟨target,iter,ifs,0⟩] scope pos) 0 it acc env) R s:=by
 refine codeAny_loop rfl J (λn s hI=>?_) n h;show ai _ A ((compTurn (.ListComp elt [⟨target,iter,ifs,0⟩] scope pos) 0 it acc env).onRaise (λx=>do noteFrame x env;theTreesLotGoes x)) _ _ s;refine wpAny_noted ?_;rw[compTurn_list];refine aq (oT (aq (bZ (turn n s hI) (λr s₁ h₁=>?_) λ_ _ h'=>h')));cases r with
 |none=>exact aB h₁
 |some v=>
  refine aq (bZ h₁ (λ_ s₁' h₁'=>?_) λ_ _ h'=>h');refine aq (bZ h₁' (λ_ s₂ h₂=>aq (bZ h₂ (λok s₃ h₃=>?_) λ_ _ h'=>h')) λ_ _ h'=>h');cases ok with
  |false=>exact aB ⟨rfl,h₃⟩
  |true=>exact aq (aq (bZ h₃ (λx s₄ h₄=>aq (bZ h₄ (λ_ s₅ h₅=>aB (aB ⟨rfl,h₅⟩)) λ_ _ h'=>h')) λ_ _ h'=>h'))
end
def wA(k:Nat)(cap:List Nat)(σ:St):St:=eE k none++cap.map λj=>(σ[j]?).join
theorem GX(h:(wA k cap σ)[i]?=some (some v)):k<=i:=by
 by_cases hi:k<=i
 ·exact hi
 ·unfold wA at h;rw[cW (by rw[cp];omega),fL]at h;split at h<;>cases h
theorem Nx{k:Nat}{cap:List Nat}{σ:St}{N N':aF}{i:Nat}{v:V}{x:Str}(hcap:(N'.drop k).map some=cap.map λj=>N[j]?)(hx:N'[i]?=some x)(h:(wA k cap σ)[i]?=some (some v)):
  ∃j:Nat,N[j]?=some x/\σ[j]?=some (some v)/\x∈N'.drop k:=by
 have hi:=GX h;unfold wA at h;rw[cI (by rw[cp];exact hi),cp,bB]at h;have hd:(N'.drop k)[i - k]?=some x:=by rw[de,show k+(i - k)=i by omega];exact hx
 have e:=aU (λl=>l[i - k]?) hcap;simp only[bB,hd,fi]at e;cases q:cap[i - k]? with
 |none=>rw[q]at h;cases h
 |some j=>
  rw[q]at h e;simp only[fi,rN]at h e;refine⟨j,e.symm,?_,cJ hd⟩;cases z:σ[j]? with
  |none=>rw[z]at h;cases h
  |some o=>rw[z]at h;have h':o=some v:=h;rw[h']
def E7(wi:TI)(g:TG)(tt:TT)(te:TE)(k:Nat)(cap:List Nat):TE:=λσ H Q=>wi σ H λJ H1=>∀p,H1 p=none->
 ∃W:Nat->Nat->bI->Hp->Prop,(∃m,W 0 m [] (upd H1 p (.lst [])))/\∀i m acc H2,W i m acc H2->
  (J.stop i H2/\Q (.ref p) H2)\/
   (J.go i H2/\∀x H3,J.yld i H2 x H3->g x (wA k cap σ) H3 λσ4 H4=>σ4.drop k=(wA k cap σ).drop k/\tt σ4 H4 λb H5=>
    if b=true then te σ4 H5 λy H6=>∃acc',H6 p=some (.lst acc')/\acc'.length<aJ/\∃m',m'<m/\W (i+1) m' (acc'++[y]) (upd H6 p (.lst (acc'++[y])))
    else ∃m',m'<m/\W (i+1) m' acc H5)
theorem GY{X:Cx}{cap:List Nat}
  (hc:X.calm=true) (hi:PI X tg iter wi)
  (body:∀(cl:List (Str×Addr)) (C:Addr) (fp:List Addr) (s:ag) (H:Hp),PG (uz X N' scope cl C fp s H) tg g/\PIf (uz X N' scope cl C fp s H) ifs tt/\PE (uz X N' scope cl C fp s H) elt te)
  (hkind:scope.kind=.function) (hcell:(scope.names.all λy=>y.2 != .cell)=true)
  (hloc:(scope.names.all λy=>y.2 != .local||scope.names.lookup y.1==some .local)=true)
  (hfree:(scope.names.all λy=>y.2 != .free||(X.env.kindOf y.1==some .cell||X.env.kindOf y.1==some .free))=true)
  (hlen:N'.length=k+cap.length) (hcap:(N'.drop k).map some=cap.map λj=>X.N[j]?)
  (hcf:((N'.drop k).all λx=>scope.names.lookup x==some .free)=true)
  (hs:∀x,gO iter X.env x=pure x)
  (I:Inv X pins σ H s) (h:E7 wi g tt te k cap σ H Q)
  (fin:∀a C m u s4 H3,s4.heap.Ns C m->Inv X pins σ H3 s4->Gr X pins H3 C->Q (.ref a) H3->compPost (model X.prog X.w) X.A X.xe use P (.ref a) C (.ok u) s4):
  ai (model X.prog X.w) X.A (comprehension (.ListComp elt [⟨tg,iter,ifs,0⟩] scope pos) scope X.env (firstIterPos [⟨tg,iter,ifs,0⟩] pos) (newList []) false (eval iter X.env) use) P X.xe s:=by
 have hcell':∀y∈scope.names,y.2≠.cell:=λy hy e=>by have z:=bJ.mp hcell y hy;rw[e]at z;exact au z (by decide)
 have hloc':∀y∈scope.names,y.2=.local->scope.names.lookup y.1=some .local:=λy hy e=>by have z:=bJ.mp hloc y hy;rw[e]at z;simpa using z
 have hfree':∀y∈scope.names,y.2=.free->X.env.kindOf y.1=some .cell\/X.env.kindOf y.1=some .free:=λy hy e=>by have z:=bJ.mp hfree y hy;rw[e]at z;simpa using z
 have hcl:∀y∈scope.names,y.2=.free->∃c,X.env.cells.lookup y.1=some c:=λy hy e=>I.ok.has y.1 (hfree' y hy e);refine wpAny_comprehension_free rfl hs (Gv hcl) hkind hloc' (thn (hi pins s σ H _ I h) λxv s₁ h₁=>thn h₁ λit s₂ h₂=>?_);obtain⟨ita,fp,tn,J,H2,e,I2,T,st2,f2,R2⟩:=h₂;subst e;obtain⟨W,⟨m0,w0⟩,turn⟩:=R2 s₂.heap.objs.size (I2.hok.fresh (aI _));refine fN (wpAny_newFunctionEnv hcell' (by intro y hy;simp at hy) (λh₁ hns₁ hsb₁=>?_) hkind);dsimp only at hns₁ hsb₁ ⊢;generalize hp:s₂.heap.push { cls:=.type "list", dict:=none,data:=.seq ([]:List ae).toArray }=hpL at hns₁ hsb₁ ⊢;have hsz:hpL.objs.size=s₂.heap.objs.size+1:=by rw[<-hp,dF]
 have I3:Inv X pins σ (upd H2 s₂.heap.objs.size (.lst [])) { s₂ with heap:=hpL }:=by rw[<-hp];exact I2.laid (t':=s₂.toks) (λb u e=>aM _ e) (aI _) ⟨cu _,[],0,.nil,bF _ rfl⟩
 have old:∀b o,hpL.get? b=some o->h₁.get? b=some o:=λb o e=>hsb₁.extBut b o (bb (aQ e)) (aM _ e);have older:∀b o,s₂.heap.get? b=some o->hpL.get? b=some o:=λb o e=>by rw[<-hp];exact aM _ e
 have hfpS:∀b∈fp,b<s₂.heap.objs.size:=λb hb=>let ⟨o,e,_⟩:=T.obj _ _ st2 b hb;aQ e;have sub:∀x c,(xB X.env.cells scope.names).lookup x=some c->X.env.cells.lookup x=some c:=Jt scope.names [] hcl (λx c e=>by cases e);have ok':(uz X N' scope (xB X.env.cells scope.names) hpL.objs.size fp { s₂ with heap:=hpL } (upd H2 s₂.heap.objs.size (.lst []))).Ok:={
  mod:=I3.ok.mod
  kind:=hkind
  glob:=I3.ok.glob
  blt:=I3.ok.blt
  above:=aI _
  inj:=λx y c h1 h2=>I3.ok.inj x y c (sub x c h1) (sub y c h2)
  has:=λx hx=>E6 scope.names [] x (K2 hcell' hx)
  cab:=λx c hf _=>au (show false=true from hf) bA
  hd:=I3.ok.hd
  frames:=I3.ok.frames
  stk:=.inl rfl
  exf:=λb hb=>⟨(by
   show b≠hpL.objs.size;rw[hsz];exact bb (df (hfpS b hb))),λx c e=>(f2 b hb).2.2.2.2.1 x c (sub x c e)⟩
  bs:=I3.bs
  bsz:=bQ I3.ok.bsz I3.sz
  noex:=λb o e hb=>by
   rcases(f2 b hb).2.2.2.1 with z|z
   ·exact I3.ok.noex b o e z
   ·exact au (cf (aQ e) (bQ I3.ok.bsz z)) (dG _)
  exfs:=λb hb z=>(aN.mp (I3.stkSub b z)).elim (f2 b hb).2.1 (f2 b hb).2.2.1
  funs:=I3.stack
  frf:=I3.stkFree }
 have IX:Inv (uz X N' scope (xB X.env.cells scope.names) hpL.objs.size fp { s₂ with heap:=hpL } (upd H2 s₂.heap.objs.size (.lst []))) [] (wA k cap σ) (upd H2 s₂.heap.objs.size (.lst []))
   { s₂ with heap:=h₁,toks:=s₂.toks+([]:List (Str×ae)).length }:={
  ok:=ok'
  os:=rfl
  bare:=I3.bare
  base:=Un.kept old
  loc:=⟨_,hns₁,λi x v e1 e2 _=>by
   obtain⟨j,hj,hσ,hm⟩:=Nx hcap e1 e2;have hx:scope.names.lookup x=some .free:=by simpa using bJ.mp hcf x hm
   have hk:=hfree' (x,.free) (mem_of_lookup hx) rfl;obtain⟨m,hn,hl⟩:=I3.loc;obtain⟨u,r,lk⟩:=hl j x v hj hσ (hk.elim (λz=>.inr (.inl z)) λz=>.inr (.inr z));refine⟨u,r,.inr ⟨Gw hx,?_⟩⟩;rcases lk with ⟨z,_⟩|⟨_,c,e,o,ho,hd⟩
   ·rcases hk with y|y
    ·rw[y]at z;cases z
    ·rw[y]at z;cases z
   ·obtain⟨c',e'⟩:=E6 (cells:=X.env.cells) scope.names [] x (mem_of_lookup hx);have ec:=sub x c' e';rw[e]at ec;have ec':c=c':=cq ec;subst ec';exact⟨c,e',o,old _ _ ho,hd⟩⟩
  cell:=λx c e=>by obtain⟨v,o,ho,hd⟩:=I3.cell x c (sub x c e);exact⟨v,o,old _ _ ho,hd⟩
  free:=I3.hok.fresh (aI _)
  freeC:=λx c e=>I3.freeC x c (sub x c e)
  pin:=λp hp=>au (show p∈([]:cH) from hp) (by simp)
  hok:=I3.hok.kept old
  len:=by
   show (wA k cap σ).length=N'.length;rw[hlen];unfold wA;rw[aC,cp,ah] }
 have stat:∀{H':Hp},(∀b∈fp,H' b=none)->∀b∈fp,Gr (uz X N' scope (xB X.env.cells scope.names) hpL.objs.size fp { s₂ with heap:=hpL } (upd H2 s₂.heap.objs.size (.lst []))) [] H' b:=λhn b hb=>⟨hn b hb,(ok'.exf b hb).1,ok'.exfs b hb,.inl hb,(ok'.exf b hb).2,λp hp=>au (show p∈([]:cH) from hp) (by simp)⟩
 have st4:tn 0 h₁:=T.keep _ _ _ st2 λb _ o e=>old b o (older b o e);have loop:ck (model X.prog X.w) X.A (.compLoop (.ListComp elt [⟨tg,iter,ifs,0⟩] scope pos) 0 (.ref ita) (.ref s₂.heap.objs.size) (compEnvC scope (xB X.env.cells scope.names) hpL.objs.size X.env))
   (compPost (model X.prog X.w) X.A X.xe use P (.ref s₂.heap.objs.size) hpL.objs.size) { s₂ with heap:=h₁,toks:=s₂.toks+([]:List (Str×ae)).length }:=by
  refine Iq (λn s'=>∃i acc H',Inv (uz X N' scope (xB X.env.cells scope.names) hpL.objs.size fp { s₂ with heap:=hpL } (upd H2 s₂.heap.objs.size (.lst []))) [] (wA k cap σ) H' s'/\tn i s'.heap/\(∀b∈fp,H' b=none)/\W i n acc H')
   ?_ m0 ⟨0,[],_,IX,st4,λb hb=>?_,w0⟩
  ·rintro n s3 ⟨i,acc,H3,I4,st3,fr3,w3⟩;rcases turn i n acc H3 w3 with ⟨stop,qn⟩|⟨go,step⟩
   ·refine thn (T.done (uz X N' scope (xB X.env.cells scope.names) hpL.objs.size fp { s₂ with heap:=hpL } (upd H2 s₂.heap.objs.size (.lst []))) rfl rfl rfl hc i [] s3 _ H3 _ I4 (stat fr3) st3 stop) λr s4 zz=>?_;obtain⟨hr,I5⟩:=zz;subst hr;obtain⟨m,hn,_⟩:=id I5.loc;have U:=I5.base;refine fin _ _ m _ _ _ hn (I3.call' (s':=s4) (ch:=fp) I5.os ⟨λb o e n hb hx=>U.keep b o e n hb hx,λb o e n hb hx=>U.slot b o e n hb hx,U.free,λb o e hx=>U.there b o e hx,U.tups,U.frzs,U.tbls⟩ I5.hok I5.bare
     λb hb=>⟨(f2 b hb).2.2.2.1,(f2 b hb).2.1,(f2 b hb).2.2.2.2.1,(f2 b hb).2.2.2.2.2⟩) (I3.fpOk (aI _) I5.free) qn
   ·refine thn (T.item (uz X N' scope (xB X.env.cells scope.names) hpL.objs.size fp { s₂ with heap:=hpL } (upd H2 s₂.heap.objs.size (.lst []))) rfl rfl rfl hc i [] s3 _ H3 _ I4 (stat fr3) st3 go) λr s4 zz=>?_;obtain⟨u,hr,h4⟩:=zz;subst hr;refine thn h4 λ_ s5 zz=>?_;obtain⟨x,H5,I5,r5,y5,st5,fr5⟩:=zz;have I5':=I5.pinned (stat fr5) (T.obj _ _ st5);have again:∀{H8:Hp} {s8:ag} {σ8:St} {acc8:bI} {m':Nat},Inv (uz X N' scope (xB X.env.cells scope.names) hpL.objs.size fp { s₂ with heap:=hpL } (upd H2 s₂.heap.objs.size (.lst []))) ([]++ER fp s5.heap) σ8 H8 s8->σ8.drop k=(wA k cap σ).drop k->m'<n->W (i+1) m' acc8 H8->
      ∃m,m<n/\∃i acc H',Inv (uz X N' scope (xB X.env.cells scope.names) hpL.objs.size fp { s₂ with heap:=hpL } (upd H2 s₂.heap.objs.size (.lst []))) [] (wA k cap σ) H' s8/\tn i s8.heap/\(∀b∈fp,H' b=none)/\W i m acc H':=λ{H8 s8 σ8 acc8 m'} I8 hd8 hm8 w8=>by
     refine⟨m',hm8,i+1,acc8,H8,I8.unpinned.weak (IX.len.trans I8.len.symm) (λj v e=>?_),T.keep _ _ _ st5 λb hb o e=>(I8.pin (b,o) (bS _ (bS _ (ya hb e)))).1,λb hb=>?_,w8⟩
     ·have hj:=GX e;have q:(σ8.drop k)[j - k]?=((wA k cap σ).drop k)[j - k]?:=by rw[hd8]
      rw[de,de,show k+(j - k)=j by omega]at q;rw[q];exact e
     ·obtain⟨o,e,d⟩:=T.obj _ _ st5 b hb;exact(I8.pin (b,o) (bS _ (bS _ (ya hb e)))).2.1
    refine bZ ((body _ _ _ _ _).1 _ s5 _ H5 x u _ I5' r5 (step x H5 y5)) (λ_ s6 h6=>?_) λ_ _ f=>f.elim;obtain⟨σ6,H6,I6,hd6,q6⟩:=h6;refine bZ ((body _ _ _ _ _).2.1 _ s6 σ6 H6 _ I6 q6) (λb s7 h7=>?_) λ_ _ f=>f.elim;obtain⟨H7,I7,q7⟩:=h7;cases b with
    |false=>rw[ao bA]at q7;rw[ao bA];obtain⟨m',hm',w7⟩:=q7;exact again I7 hd6 hm' w7
    |true=>rw[aj rfl]at q7;rw[aj rfl];refine bZ ((body _ _ _ _ _).2.2 _ s7 σ6 H7 _ I7 q7) (λyv s8 h8=>?_) λ_ _ f=>f.elim;obtain⟨y,H8,I8,r8,acc',hp8,hl8,m',hm',w8⟩:=h8;refine bZ (CY (X:=uz X N' scope (xB X.env.cells scope.names) hpL.objs.size fp { s₂ with heap:=hpL } (upd H2 s₂.heap.objs.size (.lst []))) _ s8 σ6 H8 (.ref s₂.heap.objs.size) [y] (.ref s₂.heap.objs.size) [yv] (λ_ Hx=>Hx=upd H8 s₂.heap.objs.size (.lst (acc'++[y]))) I8 rfl (.cons r8 .nil) ⟨_,acc',y,rfl,rfl,hp8,hl8,rfl⟩) (λ_ s9 h9=>?_) λ_ _ f=>f.elim;obtain⟨_,H9,I9,_,e9⟩:=h9;subst e9;exact again I9 hd6 hm' w8
  ·have z:b≠s₂.heap.objs.size:=bb (hfpS b hb);rw[su z];exact(f2 b hb).1
 exact codeAny_compStart_list loop (T.self _ 0 _ _ _ st4 loop)
theorem Sb{X:Cx}{cap:List Nat}
  (hc:X.calm=true) (hi:PI X tg iter wi)
  (body:∀(cl:List (Str×Addr)) (C:Addr) (fp:List Addr) (s:ag) (H:Hp),PG (uz X N' scope cl C fp s H) tg g/\PIf (uz X N' scope cl C fp s H) ifs tt/\PE (uz X N' scope cl C fp s H) elt te)
  (hkind:scope.kind=.function:=by rfl) (hcell:(scope.names.all λy=>y.2 != .cell)=true:=by rfl)
  (hloc:(scope.names.all λy=>y.2 != .local||scope.names.lookup y.1==some .local)=true:=by rfl)
  (hfree:(scope.names.all λy=>y.2 != .free||(X.env.kindOf y.1==some .cell||X.env.kindOf y.1==some .free))=true:=by rfl)
  (hlen:N'.length=k+cap.length:=by rfl) (hcap:(N'.drop k).map some=cap.map λj=>X.N[j]?:=by rfl)
  (hcf:((N'.drop k).all λx=>scope.names.lookup x==some .free)=true:=by rfl)
  (hs:∀x,gO iter X.env x=pure x:=by intro _;rfl):
  PE X (.ListComp elt [⟨tg,iter,ifs,0⟩] scope pos) (E7 wi g tt te k cap):=by
 intro pins s σ H Q I h;exact GY hc hi body hkind hcell hloc hfree hlen hcap hcf hs I h λa C m u s4 H3 hn back fpC qn=>⟨m,hn,λh' hs'=>⟨.ref a,H3,back.turned (t':=s4.toks) (λb o hb e=>(hs'.2 b hb).trans e) fpC.1 fpC.2.1 fpC.2.2.2.1 fpC.2.2.2.2.1 fpC.2.2.2.2.2,rfl,qn⟩⟩
def Its(x:Str):It:=⟨λi _=>i<x.cps.size,λi H v H'=>H'=H/\∃c,x.cps[i]?=some c/\v=.str ⟨#[c]⟩,λi _=>i=x.cps.size⟩
theorem VI(hQ:Q () s):ai M A (fR tg (.ref it) (.str c t)) Q E s:=by unfold fR;cases tg<;>exact aB hQ
theorem Ju{K:ay}(it:Addr)(ty:String)(x:Str)(t:Tok)
  (hW:∀A:aS,A.handled=none->Walks P w A it [it] [it] x.cps.size (SignAt x) (λi h=>h.IsStrIter it ty x t i))
  (hS:∀(A:aS) (i:Nat) (s:ag) (Q:ae->ag->Prop) (E:ae->ag->Prop),s.heap.IsStrIter it ty x t i->Q (.ref it) s->ai (model P w) A (pyIter (.ref it)) Q E s):
  Turn P w K tg (Its x) [it] it (λi h=>h.IsStrIter it ty x t i) where
 mem:=by simp
 obj:=λi h st b hb=>by
  have e:b=it:=by simpa using hb
  subst e;obtain⟨o,e,c,d⟩:=st;exact⟨o,e,λv z=>by rw[d]at z;cases z⟩
 keep:=λi h h' st k=>by obtain⟨o,e,r⟩:=st;exact⟨o,k it (by simp) o e,r⟩
 item:=by
  sleep 4
  obtain⟨f0,f1,f2,f3,f4,f5⟩:=hf it (by simp);refine(hW _ (I.ok.hd hc)).item i s _ _ hg st λv h' tk hv st' kk=>?_;obtain⟨c,t',hc',rfl⟩:=hv;have I1:Inv X pins σ H { s with heap:=h',toks:=tk }:=I.turned (λb o hb e=>kk b o (by simpa using hb) e) f0 f1 f3 f4 f5;exact⟨_,rfl,VI ⟨.str ⟨#[c]⟩,H,I1,⟨t',rfl⟩,⟨rfl,c,hc',rfl⟩,st',λb hb=>(hf b hb).1⟩⟩
 done:=by
  sleep 4
  obtain⟨f0,f1,f2,f3,f4,f5⟩:=hf it (by simp);have hg':i=x.cps.size:=hg;subst hg';exact(hW _ (I.ok.hd hc)).done s _ _ st λh' tk kk=>⟨rfl,I.turned (λb o hb e=>kk b o (by simpa using hb) e) f0 f1 f3 f4 f5⟩
 self:=hS
section
variable{X:Cx}{tg:Expr}
def Zq(tl:TE):TI:=λσ H R=>tl σ H λv H1=>∃x,v=.str x/\R (Its x) H1
theorem VJ(hl:PE X l tl):PI X tg l (Zq tl):=by
 intro pins s σ H R I h;refine thn (hl pins s σ H _ I h) λv s1 zz=>?_;obtain⟨x,H1,I1,r1,q1⟩:=zz;obtain⟨z,e,q⟩:=q1;subst e;obtain⟨t,rfl⟩:=r1;have fp:∀b∈[s1.heap.objs.size],Gr X pins H1 b:=λb hb=>by
  have e:b=s1.heap.objs.size:=by simpa using hb
  subst e;exact I1.fpOk (aI _) (I1.hok.fresh (aI _))
 cases ha:z.cps.all (· < 128)
 ·refine wpAny_pyIter_wide ha ⟨s1.heap.objs.size,[s1.heap.objs.size],_,_,H1,rfl,I1.kept (t':=s1.toks) λb o e=>aM _ e,Ju _ "str_iterator" z t (λA hA=>Walks.strWide hA _ z t) (λA i s Q E st hQ=>wpAny_pyIter_striter_wide st hQ),⟨_,bF _ rfl,rfl,rfl⟩,fp,q⟩
 ·refine wpAny_pyIter_ascii ha ⟨s1.heap.objs.size,[s1.heap.objs.size],_,_,H1,rfl,I1.kept (t':=s1.toks) λb o e=>aM _ e,Ju _ "str_ascii_iterator" z t (λA hA=>Walks.strAscii hA _ z t) (λA i s Q E st hQ=>wpAny_pyIter_striter_ascii st hQ),⟨_,bF _ rfl,rfl,rfl⟩,fp,q⟩
end
section
variable{X:Cx}
theorem Ny:OpR X (br .LtE) (λx y H Q=>∃i j,x=.str i/\y=.str j/\Q (.bl (!decide (j.cps.toList<i.cps.toList))) H):=by intro pins s σ H x y v u Q I rx ry h;obtain⟨i,j,rfl,rfl,q⟩:=h;obtain⟨t,rfl⟩:=rx;obtain⟨t',rfl⟩:=ry;exact PySem.P.le_str (tH I q rfl)
theorem OZ(hc:X.calm=true):ux X (.builtin "all") (λxs H Q=>∃(p:Addr) (bs:List Bool),xs=[.ref p]/\SqL X.K H p (bs.map V.bl)/\Q (.bl (bs.all id)) H):=by
 intro pins s σ H xs us Q I r h;obtain⟨p,bs,rfl,hq,q⟩:=h;obtain⟨u,rfl,ru⟩:=vals1 r;cases ru;obtain⟨its,rv,pl,hz⟩:=I.list hq;have hlt:p<s.heap.objs.size:=by obtain⟨o,ho,_⟩:=pl.isList;exact aQ ho
 have hl:bs.length=its.length:=by have:=rv.length;rw[ah]at this;exact this
 refine call_all_walk (gK pl.isList ⟨s.heap.objs.size,_,_,_,_,_,λi=>(bs[i]?).getD true,rfl,jm (show X.A.in1.handled=none from I.ok.hd hc) _ p (bb hlt) its.toArray,⟨⟨_,bF _ rfl,rfl,rfl⟩,?_⟩,?_,λh' tk hk=>?_⟩)
 ·exact pl.isList.at λo e=>aM _ e
 ·intro i v s' Q' E' hv hQ';have hv':its[i]?=some v:=by simpa using hv
  have hi:i<its.length:=(bW.mp hv').1;have hb:(bs.map V.bl)[i]?=some (.bl (bs[i]'(by omega))):=by simp[show i<bs.length by omega]
  obtain⟨u,hu,ru⟩:=rv.get hb;rw[hv']at hu;cases hu;cases ru;refine c5 ?_;have e:(bs[i]?).getD true=bs[i]'(by omega):=by simp[show i<bs.length by omega]
  rw[<-e];exact hQ'
 ·refine⟨.bl (bs.all id),H,?_,?_,q⟩
  ·exact I.kept (t':=tk) λb o e=>hk b o (by simp;exact bb (aQ e)) (aM _ e)
  ·show Value.bool _=Value.bool _;congr 1;rw[bp,<- hl];rw[cK];simp only[bJ,cB,id];constructor
   ·intro hh b hb;obtain⟨i,hi,rfl⟩:=jS.mp hb;have:=hh i hi;simpa [hi]using this
   ·intro hh i hi;simp only[aP hi,nQ];exact hh _ (dh hi)
end
inductive Dq where
 |non|bl (b:Bool)|int (i:Int)|str (x:Str)|tup (ds:List Dq)|lst (ds:List Dq)
mutual
def Rep(K:ay)(H:Hp):Dq->V->Prop
 |.non,v=>v=.non
 |.bl b,v=>v=.bl b
 |.int i,v=>v=.int i
 |.str x,v=>v=.str x
 |.tup ds,v=>∃a xs,v=.ref a/\SqT K H a xs/\sj K H ds xs
 |.lst ds,v=>∃a xs,v=.ref a/\SqL K H a xs/\sj K H ds xs
def sj(K:ay)(H:Hp):List Dq->bI->Prop
 |[],xs=>xs=[]
 |d::ds,xs=>∃v r,xs=v::r/\Rep K H d v/\sj K H ds r
end
mutual
def eqD:Dq->Dq->Bool
 |.non,.non=>true
 |.bl a,.bl b=>a==b
 |.bl a,.int b=>(if a then 1 else 0)==b
 |.int a,.bl b=>a==(if b then 1 else 0)
 |.int a,.int b=>a==b
 |.str a,.str b=>a==b
 |.tup a,.tup b=>xC a b
 |.lst a,.lst b=>xC a b
 |_,_=>false
def xC:List Dq->List Dq->Bool
 |[],[]=>true
 |a::r,b::q=>eqD a b&&xC r q
 |_,_=>false
end
mutual
def dpt:Dq->Nat
 |.tup ds=>uS ds+1
 |.lst ds=>uS ds+1
 |_=>0
def uS:List Dq->Nat
 |[]=>0
 |d::r=>max (dpt d) (uS r)
end
mutual
theorem Jv:∀d:Dq,eqD d d=true
 |.non=>by unfold eqD;rfl
 |.bl b=>by unfold eqD;simp
 |.int i=>by unfold eqD;simp
 |.str x=>by unfold eqD;simp
 |.tup ds=>by unfold eqD;exact Da ds
 |.lst ds=>by unfold eqD;exact Da ds
theorem Da:∀ds:List Dq,xC ds ds=true
 |[]=>by unfold xC;rfl
 |d::r=>by unfold xC;rw[Jv d,Da r];rfl
end
theorem sq{K:ay}:∀{ds:List Dq} {xs:bI},sj K H ds xs->ds.length=xs.length
 |[],xs,h=>by unfold sj at h;subst h;rfl
 |d::ds,xs,h=>by unfold sj at h;obtain⟨v,r,rfl,_,h2⟩:=h;rw[aH,aH,sq h2]
def eAt(ds ds':List Dq)(j:Nat):Bool:=match ds[j]?,ds'[j]? with
 |some a,some b=>eqD a b
 |_,_=>true
theorem E8:∀(ds ds':List Dq),xC ds ds'=true ↔ ds.length=ds'.length/\∀j,j<ds.length->eAt ds ds' j=true
 |[],[]=>by simp[xC]
 |[],b::q=>by simp[xC]
 |a::r,[]=>by simp[xC]
 |a::r,b::q=>by
  have ih:=E8 r q;unfold xC;rw[bq,ih,aH,aH];constructor
  ·rintro⟨h1,h2,h3⟩;refine⟨by omega,λj hj=>?_⟩;cases j with
   |zero=>exact h1
   |succ j=>exact h3 j (by omega)
  ·rintro⟨h1,h2⟩;exact⟨h2 0 (by omega),by omega,λj hj=>h2 (j+1) (by omega)⟩
theorem zq{ds ds':List Dq}(hn:ds.length=n)(hm:ds'.length=m):((bH (min n m)).all (eAt ds ds')&&n==m)=xC ds ds':=by
 rw[cK,E8,bq,bJ];subst hn hm;constructor
 ·rintro⟨h1,h2⟩;have e:ds.length=ds'.length:=by simpa using h2
  exact⟨e,λj hj=>h1 j (cB.mpr (by omega))⟩
 ·rintro⟨e,h⟩;exact⟨λj hj=>h j (by have:=cB.mp hj;omega),by simpa using e⟩
theorem Ao{ds ds':List Dq}(hn:ds.length=n)(hm:ds'.length=n):(bH n).all (eAt ds ds')=xC ds ds':=by rw[<-zq hn hm];simp
theorem E9{ds ds':List Dq}(h:ds.length≠ds'.length):xC ds ds'=false:=by
 cases e:xC ds ds' with
 |false=>rfl
 |true=>exact au ((E8 ds ds').mp e).1 h
section
variable{X:Cx}{pins:cH}{σ:St}{H:Hp}{s:ag}
theorem UE(I:Inv X pins σ H s)(h:SqL X.K H a xs)(h':SqT X.K H a ys):False:=by obtain⟨its,_,p,_⟩:=I.list h;obtain⟨its',_,p',_⟩:=I.tuple h';exact SeqAt.ne_of_list_tuple p.isList (show s.heap.IsTuple a its'.toArray from p') rfl
mutual
theorem Fb(I:Inv X pins σ H s):∀(d d':Dq) (v:V),Rep X.K H d v->Rep X.K H d' v->eqD d d'=true
 |.non,d',v,h,h'=>by unfold Rep at h;subst h;cases d'<;>unfold Rep at h'<;>first|rfl|(exact nomatch h')|(obtain⟨_,_,e,_⟩:=h';exact nomatch e)
 |.bl b,d',v,h,h'=>by unfold Rep at h;subst h;cases d'<;>unfold Rep at h'<;>first|(obtain⟨_,_,e,_⟩:=h';cases e)|(cases h'<;>simp[eqD])
 |.int b,d',v,h,h'=>by unfold Rep at h;subst h;cases d'<;>unfold Rep at h'<;>first|(obtain⟨_,_,e,_⟩:=h';cases e)|(cases h'<;>simp[eqD])
 |.str b,d',v,h,h'=>by unfold Rep at h;subst h;cases d'<;>unfold Rep at h'<;>first|(obtain⟨_,_,e,_⟩:=h';cases e)|(cases h'<;>simp[eqD])
 |.tup ds,d',v,h,h'=>by
  unfold Rep at h;obtain⟨a,xs,rfl,hq,hr⟩:=h;cases d' with
  |tup ds'=>unfold Rep at h';obtain⟨a',xs',e,hq',hr'⟩:=h';cases e;have ex:=I.tuple_inj hq hq';subst ex;unfold eqD;exact Dc I ds ds' xs hr hr'
  |lst ds'=>unfold Rep at h';obtain⟨a',xs',e,hq',hr'⟩:=h';cases e;exact(UE I hq' hq).elim
  |_=>unfold Rep at h';exact nomatch h'
 |.lst ds,d',v,h,h'=>by
  unfold Rep at h;obtain⟨a,xs,rfl,hq,hr⟩:=h;cases d' with
  |lst ds'=>unfold Rep at h';obtain⟨a',xs',e,hq',hr'⟩:=h';cases e;have ex:=I.list_inj hq hq';subst ex;unfold eqD;exact Dc I ds ds' xs hr hr'
  |tup ds'=>unfold Rep at h';obtain⟨a',xs',e,hq',hr'⟩:=h';cases e;exact(UE I hq hq').elim
  |_=>unfold Rep at h';exact nomatch h'
theorem Dc(I:Inv X pins σ H s):∀(ds ds':List Dq) (xs:bI),sj X.K H ds xs->sj X.K H ds' xs->xC ds ds'=true
 |[],ds',xs,h,h'=>by
  unfold sj at h;subst h;cases ds' with
  |nil=>rfl
  |cons d r=>unfold sj at h';obtain⟨_,_,e,_⟩:=h';exact nomatch e
 |d::ds,ds',xs,h,h'=>by
  unfold sj at h;obtain⟨v,r,rfl,h1,h2⟩:=h;cases ds' with
  |nil=>unfold sj at h';exact nomatch h'
  |cons d' r'=>unfold sj at h';obtain⟨v',q,e,h1',h2'⟩:=h';cases e;unfold xC;rw[Fb I d d' v h1 h1',Dc I ds r' r h2 h2'];rfl
end
mutual
theorem O0(I:Inv X pins σ H s):∀(d d':Dq) (x y:V) (u v:ae) (A:aS),Rep X.K H d x->Rep X.K H d' y->RelV x u->RelV y v->A.units+dpt d+dpt d'<cLine->jl A s u v (eqD d d')
 |.tup ds,d',x,y,u,v,A,hx,hy,ru,rv,hu=>by
  unfold Rep at hx;obtain⟨a,xs,rfl,hq,hr⟩:=hx;cases ru;obtain⟨its,rx,p,_⟩:=I.tuple hq;have p:s.heap.IsTuple a its.toArray:=p;cases d' with
  |non=>unfold Rep at hy;subst hy;cases rv;exact qL p (by omega)
  |bl b=>unfold Rep at hy;subst hy;cases rv;exact qM b p (by omega)
  |int b=>unfold Rep at hy;subst hy;obtain⟨t,rfl⟩:=rv;exact qU b t p (by omega)
  |str b=>unfold Rep at hy;subst hy;obtain⟨t,rfl⟩:=rv;exact qV b t p (by omega)
  |lst ds'=>
   sleep 3
   obtain⟨its',ry,p',_⟩:=I.list hq';exact qN p p'.isList (by omega)
  |tup ds'=>
   have hy0:=hy
   sleep 3
   obtain⟨its',ry,p',_⟩:=I.tuple hq';have p':s.heap.IsTuple b its'.toArray:=p';by_cases hab:a=b
   ·subst hab;have e:eqD (.tup ds) (.tup ds')=true:=Fb I _ _ (.ref a) (by unfold Rep;exact⟨a,xs,rfl,hq,hr⟩) hy0;rw[e];exact gX _
   ·have hd:dpt (.tup ds)=uS ds+1:=by rw[dpt]
    have hd':dpt (.tup ds')=uS ds'+1:=by rw[dpt]
    have q:=rO (A:=A) (e:=eAt ds ds') p p' (by omega) λj h1 h2=>by have z:=zr I ds ds' xs ys its its' A.in1 hr hr' rx ry (by show A.units+1+uS ds+uS ds'<cLine;omega) j (by simpa using h1) (by simpa using h2);simpa using z
    rw[zq (by rw[sq hr,rx.length];simp) (by rw[sq hr',ry.length];simp)]at q;exact j5 hab (by unfold eqD;exact q)
 |.lst ds,d',x,y,u,v,A,hx,hy,ru,rv,hu=>by
  unfold Rep at hx;obtain⟨a,xs,rfl,hq,hr⟩:=hx;cases ru;obtain⟨its,rx,p,_⟩:=I.list hq;have p:=p.isList;cases d' with
  |non=>unfold Rep at hy;subst hy;cases rv;exact qW p (by omega)
  |bl b=>unfold Rep at hy;subst hy;cases rv;exact qX b p (by omega)
  |int b=>unfold Rep at hy;subst hy;obtain⟨t,rfl⟩:=rv;exact rB b t p (by omega)
  |str b=>unfold Rep at hy;subst hy;obtain⟨t,rfl⟩:=rv;exact rD b t p (by omega)
  |tup ds'=>
   sleep 3
   obtain⟨its',ry,p',_⟩:=I.tuple hq';exact qO p (show s.heap.IsTuple b its'.toArray from p') (by omega)
  |lst ds'=>
   have hy0:=hy
   sleep 3
   obtain⟨its',ry,p',_⟩:=I.list hq';have p':=p'.isList;by_cases hab:a=b
   ·subst hab;have e:eqD (.lst ds) (.lst ds')=true:=Fb I _ _ (.ref a) (by unfold Rep;exact⟨a,xs,rfl,hq,hr⟩) hy0;rw[e];exact gX _
   ·have hd:dpt (.lst ds)=uS ds+1:=by rw[dpt]
    have hd':dpt (.lst ds')=uS ds'+1:=by rw[dpt]
    by_cases hl:its.length=its'.length
    ·have q:=rQ (A:=A) (e:=eAt ds ds') p p' (by simpa using hl) (by omega) λj h1 h2=>by have z:=zr I ds ds' xs ys its its' A.in1 hr hr' rx ry (by show A.units+1+uS ds+uS ds'<cLine;omega) j (by simpa using h1) (by simpa using h2);simpa using z
     rw[Ao (by rw[sq hr,rx.length];simp) (by rw[sq hr',ry.length,<- hl];simp)]at q;exact j5 hab (by unfold eqD;exact q)
    ·have e:eqD (.lst ds) (.lst ds')=false:=by unfold eqD;exact E9 (by rw[sq hr,sq hr',rx.length,ry.length];exact hl)
     rw[e];exact j5 hab (qI p p' (by simpa using hl) (by omega))
 |.non,d',x,y,u,v,A,hx,hy,ru,rv,hu=>by
  unfold Rep at hx;subst hx;cases d' with
  |tup ds'=>
   sleep 3
   cases ru;obtain⟨its',ry,p',_⟩:=I.tuple hq';exact qP (show s.heap.IsTuple b its'.toArray from p') (by omega)
  |lst ds'=>
   sleep 3
   cases ru;obtain⟨its',ry,p',_⟩:=I.list hq';exact qY p'.isList (by omega)
  |_=>unfold Rep at hy;subst hy;exact EZ ru rv rfl rfl
 |.bl c,d',x,y,u,v,A,hx,hy,ru,rv,hu=>by
  unfold Rep at hx;subst hx;cases d' with
  |tup ds'=>
   sleep 3
   cases ru;obtain⟨its',ry,p',_⟩:=I.tuple hq';exact qQ c (show s.heap.IsTuple b its'.toArray from p') (by omega)
  |lst ds'=>
   sleep 3
   cases ru;obtain⟨its',ry,p',_⟩:=I.list hq';exact qZ c p'.isList (by omega)
  |_=>unfold Rep at hy;subst hy;exact EZ ru rv rfl rfl
 |.int c,d',x,y,u,v,A,hx,hy,ru,rv,hu=>by
  unfold Rep at hx;subst hx;cases d' with
  |tup ds'=>
   sleep 3
   obtain⟨t,rfl⟩:=ru;obtain⟨its',ry,p',_⟩:=I.tuple hq';exact q9 c t (show s.heap.IsTuple b its'.toArray from p') (by omega)
  |lst ds'=>
   sleep 3
   obtain⟨t,rfl⟩:=ru;obtain⟨its',ry,p',_⟩:=I.list hq';exact rE c t p'.isList (by omega)
  |_=>unfold Rep at hy;subst hy;exact EZ ru rv rfl rfl
 |.str c,d',x,y,u,v,A,hx,hy,ru,rv,hu=>by
  unfold Rep at hx;subst hx;cases d' with
  |tup ds'=>
   sleep 3
   obtain⟨t,rfl⟩:=ru;obtain⟨its',ry,p',_⟩:=I.tuple hq';exact rb c t (show s.heap.IsTuple b its'.toArray from p') (by omega)
  |lst ds'=>
   sleep 3
   obtain⟨t,rfl⟩:=ru;obtain⟨its',ry,p',_⟩:=I.list hq';exact rF c t p'.isList (by omega)
  |_=>unfold Rep at hy;subst hy;exact EZ ru rv rfl rfl
theorem zr(I:Inv X pins σ H s):∀(ds ds':List Dq) (xs ys:bI) (us vs:List ae) (A:aS),sj X.K H ds xs->sj X.K H ds' ys->Vals xs us->Vals ys vs->A.units+uS ds+uS ds'<cLine->
  ∀(j:Nat) (h1:j<us.length) (h2:j<vs.length),jl A s us[j] vs[j] (eAt ds ds' j)
 |[],ds',xs,ys,us,vs,A,hx,hy,ru,rv,hu,j,h1,h2=>by
  have:=sq hx;have:=ru.length;simp only[c6]at *
  omega
 |d::ds,[],xs,ys,us,vs,A,hx,hy,ru,rv,hu,j,h1,h2=>by
  have:=sq hy;have:=rv.length;simp only[c6]at *
  omega
 |d::ds,d'::ds',xs,ys,us,vs,A,hx,hy,ru,rv,hu,j,h1,h2=>by
  unfold sj at hx hy;obtain⟨x,xr,rfl,hx1,hx2⟩:=hx;obtain⟨y,yr,rfl,hy1,hy2⟩:=hy;have e1:uS (d::ds)=max (dpt d) (uS ds):=by rw[uS]
  have e2:uS (d'::ds')=max (dpt d') (uS ds'):=by rw[uS]
  cases ru with
  |cons r1 r2=>
   cases rv with
   |cons q1 q2=>
    cases j with
    |zero=>exact O0 I d d' x y _ _ A hx1 hy1 r1 q1 (by omega)
    |succ j=>exact zr I ds ds' xr yr _ _ A hx2 hy2 r2 q2 (by omega) j (by simpa using h1) (by simpa using h2)
end
def GZ:Dq->Dq->Bool
 |.tup _,.tup _=>true
 |.lst _,.lst _=>true
 |_,_=>false
def K4(K:ay)(neg:Bool):R2:=λx y H Q=>∃d d',Rep K H d x/\Rep K H d' y/\GZ d d'=true/\dpt d<=20/\dpt d'<=20/\Q (.bl (if neg then !eqD d d' else eqD d d')) H
theorem VL(hu:X.A.units+64<cLine):OpR X (br .Eq) (K4 X.K false):=by
 intro pins s σ H x y u v Q I ru rv h;obtain⟨d,d',hx,hy,hd,h1,h2,q⟩:=h;cases d with
 |tup ds=>
  cases d' with
  |tup ds'=>
   have hd1:dpt (.tup ds)=uS ds+1:=by rw[dpt]
   have hd2:dpt (.tup ds')=uS ds'+1:=by rw[dpt]
   unfold Rep at hx hy;obtain⟨a,xs,rfl,hq,hr⟩:=hx;obtain⟨b,ys,rfl,hq',hr'⟩:=hy;cases ru;cases rv;obtain⟨its,rx,p,_⟩:=I.tuple hq;obtain⟨its',ry,p',_⟩:=I.tuple hq';refine SeqAt.eq_tupleAt (e:=eAt ds ds') (show s.heap.IsTuple a its.toArray from p) (show s.heap.IsTuple b its'.toArray from p') (by omega) (λj h1 h2=>?_) ?_
   ·have z:=zr I ds ds' xs ys its its' X.A.in1 hr hr' rx ry (by show X.A.units+1+uS ds+uS ds'<cLine;omega) j (by simpa using h1) (by simpa using h2);simpa using z
   ·rw[zq (by rw[sq hr,rx.length];simp) (by rw[sq hr',ry.length];simp)];unfold eqD at q;exact tH I q rfl
  |_=>exact nomatch hd
 |lst ds=>
  cases d' with
  |lst ds'=>
   have hd1:dpt (.lst ds)=uS ds+1:=by rw[dpt]
   have hd2:dpt (.lst ds')=uS ds'+1:=by rw[dpt]
   unfold Rep at hx hy;obtain⟨a,xs,rfl,hq,hr⟩:=hx;obtain⟨b,ys,rfl,hq',hr'⟩:=hy;cases ru;cases rv;obtain⟨its,rx,p,_⟩:=I.list hq;obtain⟨its',ry,p',_⟩:=I.list hq';by_cases hl:its.length=its'.length
   ·refine SeqAt.eq_listAt (e:=eAt ds ds') p.isList p'.isList (by simpa using hl) (by omega) (λj h1 h2=>?_) ?_
    ·have z:=zr I ds ds' xs ys its its' X.A.in1 hr hr' rx ry (by show X.A.units+1+uS ds+uS ds'<cLine;omega) j (by simpa using h1) (by simpa using h2);simpa using z
    ·rw[Ao (by rw[sq hr,rx.length];simp) (by rw[sq hr',ry.length,<- hl];simp)];unfold eqD at q;exact tH I q rfl
   ·refine SeqAt.eq_list_lengthsAt p.isList p'.isList (by simpa using hl) (by omega) ?_;have e:xC ds ds'=false:=E9 (by rw[sq hr,sq hr',rx.length,ry.length];exact hl);unfold eqD at q;rw[e]at q;exact tH I q rfl
  |_=>exact nomatch hd
 |_=>exact nomatch hd
theorem VM(hu:X.A.units+64<cLine):OpR X (br .NotEq) (K4 X.K true):=by
 intro pins s σ H x y u v Q I ru rv h;obtain⟨d,d',hx,hy,hd,h1,h2,q⟩:=h;cases d with
 |tup ds=>
  cases d' with
  |tup ds'=>
   have hd1:dpt (.tup ds)=uS ds+1:=by rw[dpt]
   have hd2:dpt (.tup ds')=uS ds'+1:=by rw[dpt]
   unfold Rep at hx hy;obtain⟨a,xs,rfl,hq,hr⟩:=hx;obtain⟨b,ys,rfl,hq',hr'⟩:=hy;cases ru;cases rv;obtain⟨its,rx,p,_⟩:=I.tuple hq;obtain⟨its',ry,p',_⟩:=I.tuple hq';have w:=rG (A:=X.A) (e:=eAt ds ds') (show s.heap.IsTuple a its.toArray from p) (show s.heap.IsTuple b its'.toArray from p') (by omega) (λj h1 h2=>by
    have z:=zr I ds ds' xs ys its its' X.A.in1 hr hr' rx ry (by show X.A.units+1+uS ds+uS ds'<cLine;omega) j (by simpa using h1) (by simpa using h2);simpa using z)
   rw[zq (by rw[sq hr,rx.length];simp) (by rw[sq hr',ry.length];simp)]at w;unfold eqD at q;exact w X.prog X.w X.xe _ (tH I q rfl)
  |_=>exact nomatch hd
 |lst ds=>
  cases d' with
  |lst ds'=>
   have hd1:dpt (.lst ds)=uS ds+1:=by rw[dpt]
   have hd2:dpt (.lst ds')=uS ds'+1:=by rw[dpt]
   unfold Rep at hx hy;obtain⟨a,xs,rfl,hq,hr⟩:=hx;obtain⟨b,ys,rfl,hq',hr'⟩:=hy;cases ru;cases rv;obtain⟨its,rx,p,_⟩:=I.list hq;obtain⟨its',ry,p',_⟩:=I.list hq';by_cases hl:its.length=its'.length
   ·have w:=rL (A:=X.A) (e:=eAt ds ds') p.isList p'.isList (by simpa using hl) (by omega) (λj h1 h2=>by
     have z:=zr I ds ds' xs ys its its' X.A.in1 hr hr' rx ry (by show X.A.units+1+uS ds+uS ds'<cLine;omega) j (by simpa using h1) (by simpa using h2);simpa using z)
    rw[Ao (by rw[sq hr,rx.length];simp) (by rw[sq hr',ry.length,<- hl];simp)]at w;unfold eqD at q;exact w X.prog X.w X.xe _ (tH I q rfl)
   ·have e:xC ds ds'=false:=E9 (by rw[sq hr,sq hr',rx.length,ry.length];exact hl);unfold eqD at q;rw[e]at q;exact qe p.isList p'.isList (by simpa using hl) (by omega) X.prog X.w X.xe _ (tH I q rfl)
  |_=>exact nomatch hd
 |_=>exact nomatch hd
end
theorem G0{K:ay}:∀l:aF,sj K H (l.map Dq.str) (l.map V.str)
 |[]=>by rw[bL,bL];unfold sj;rfl
 |x::r=>by rw[az,az];unfold sj;exact⟨_,_,rfl,(by unfold Rep;rfl),G0 r⟩
theorem y4:∀l:aF,uS (l.map Dq.str)=0
 |[]=>by rw[bL,uS]
 |x::r=>by rw[az];unfold uS;rw[y4 r];unfold dpt;rfl
inductive uE:List Expr->bI->Prop
 |nil:uE [] []
 |cons {x:Str} {j:Nat} {pos:Pos} {es:List Expr} {vs:bI} (h:uE es vs):uE (.Constant (.str x) j pos::es) (.str x::vs)
theorem yd(h:n<=1000):n<=aJ:=fq (A6 h)
theorem sA.new(x:sA H H1)(hp:H1 p=none)(o:HO):sA H (upd H1 p o):=λb u e=>by have z:=x b u e;rw[su (vw z hp)];exact z
structure NA(K:ay)(x qual:Str)(st:Stmt)(f:Addr)(fd:cb)(T:Addr):Prop where
 ex:∃(oc:ae) (od:Option Addr) (kV doc pm:ae) (an:Option Addr) (cdv ct:ae) (osl:Array (Option ae)),
  fd=dO x qual (wz st) (tG st) (sM st) (.ref T) kV doc pm an cdv ct/\K.lookup f=some ⟨oc,od,.func fd,osl⟩/\f6 K cdv qual=true
 kp:du K (.ref f)=true
section
variable{P:aV}{w:aL}{K:ay}{mg:Str->Option ae}{base:Heap}
theorem NA.ok{st:Stmt}(F:NA K x qual st f fd T)(S:uu N ps (sM st))(len:∀vs H Q E,sp vs H Q E->vs.length=ps.length)
  (hbody:∀(cdv:ae) (A:aS) (outer:List Env) (s:ag) (H:Hp) (vs:bI) (Q:VK) (E:XK),uy k (A.deeper (envOfC qual (sM st) s.heap.objs.size f cdv))->sp vs H Q E->
   ∃t,PSs (Jm CX0 P w K mg base N qual (sM st) f cdv A outer s H E).nox (tG st) t/\t { nx:=λ_ H'=>Q .non H',rt:=Q } (L2.start N vs) H):wx P w K mg base CX0 (k+1) f fd ps sp:=by
 obtain⟨oc,od,kV,doc,pm,an,cdv,ct,osl,rfl,lk,hcd⟩:=F.ex;refine UA lk hcd S len λA outer s H vs Q E hr hsp=>?_;obtain⟨t,h,q⟩:=hbody cdv A outer s H vs Q E hr hsp;exact⟨t,h.nox,q⟩
end
theorem NA.binds{K:ay}{st:Stmt}{ps:aF}{ds:List ae}(F:NA K x qual st f fd T)(ho:K.lookup T=some o)(hs:o.data=.seq items n)
  (h:∀(kV doc pm:ae) (an:Option Addr) (cdv ct:ae) (us:List ae),us.length=ps.length - ds.length->∃k,bindArgs (dO x qual (wz st) (tG st) (sM st) (.ref T) kV doc pm an cdv ct) ⟨us,[]⟩=seqItems? (.ref T)>>=k/\k (some items)=pure (ps.zip (us++ds))):Binds K fd ps ds:=by
 obtain⟨oc,od,kV,doc,pm,an,cdv,ct,osl,rfl,lk,hcd⟩:=F.ex;intro s us KX hl;obtain⟨k,h1,h2⟩:=h kV doc pm an cdv ct us (by rw[aC]at hl;omega);exact BindsTo.of_defaults (k:=k) rfl (KX _ _ ho) hs h1 h2
section
variable{X:Cx}
theorem K5:OpR X (cQ .Mult) (λx y H Q=>∃z n,x=.str z/\y=.int n/\MulOk z n/\Q (.str (ib z n)) H):=by intro pins s σ H x y v u Q I rx ry h;obtain⟨z,n,rfl,rfl,hm,q⟩:=h;obtain⟨t,rfl⟩:=rx;obtain⟨t',rfl⟩:=ry;exact SB.mul hm λt2 k=>⟨.str _,H,I.tok _,⟨t2,rfl⟩,q⟩
end
section
variable{X:Cx}(K:ay)
theorem O1(hK:X.K=K:=by rfl):IxR X (RU K):=by subst hK;exact Ma
theorem Jw(hl:PE X l tl)(hK:X.K=K:=by rfl):PI X tg l (OA K tl):=by subst hK;exact RF hl
theorem Se(hl:PE X l tl)(hK:X.K=K:=by rfl):PI X tg l (Vg K tl):=by subst hK;exact Vh hl
theorem Sf(hc:X.calm=true)(h:PGs X es t)(hn:(cP es X.env).length=n:=by rfl)(hst:(cP es X.env).findIdx? (·.1)=none:=by rfl)(hK:X.K=K:=by rfl):PG X (.Tuple es k pos) (Vc K n t):=by subst hK;exact Vd hc h hn hst
variable{o e:Expr}{es:List Expr}{to:TE}{t:TA}{name:Str}{apos cpos:Pos}{T id:String}{r:V->bI->Hp->VK->Prop}
theorem O2(pa:kY T)(slot:Slot T name id)(hty:typeOf (.builtin id)=pure (.type "method_descriptor"))(hm:MtR X id r)(ho:PE X o to)(ha:PA X (e::es) t)
  (hbase:dH o name X.env (eval o X.env)=eval o X.env:=by rfl)
  (hfew:((bD cpos (aA (e::es) X.env)).all (λx=>!x.1)&&(backToKw cpos (dq [] X.env)).all (λx=>x.1.isSome)
   && decide ((e::es).length+([]:List eJ).length+(if ([]:List eJ).isEmpty then 0 else 1)<30))=true:=by rfl)
  (hline:(apos.endLine==cpos.line)=true:=by rfl) (hs:aA (e::es) X.env=(false,eval e X.env)::aA es X.env:=by rfl) (hplain:(bD cpos (aA es X.env)).any (·.1)=false:=by rfl) (hK:X.K=K:=by rfl):
  PE X (.Call (.Attribute o name apos) (e::es) [] cpos) (tBM K T r to t):=by subst hK;exact Zl pa slot hty hm ho ha hbase hfew hline hs hplain
end
end L3
namespace L2
open PySem PySem.Spec PyProof.Rows
section
variable{X:Cx}{pins:cH}{σ:St}{H:Hp}{s:ag}
theorem y6(e:H a=some u)(q:H c=some v)(d:u≠v)(n:HO):upd H a n c=some v:=by rw[su (λz=>by subst z;rw[e]at q;exact d (cq q))];exact q
theorem Inv.freeze(I:Inv X pins σ H s)(e:H a=some (.dK kvs)):∃o,Inv X pins σ (upd H a (.frz o (.dK kvs))) s:=by
 obtain⟨z,y,vs,r,ob,es,ep,e1,c⟩:=(show tY X.prog X.w H s.heap a (.dK kvs) from I.hok a _ e);refine⟨ob,?_⟩;have I':=I.step (H':=upd H a (.frz ob (.dK kvs))) (h':=s.heap) (g':=s.gens) (d':=s.drawn) (t':=s.toks) (ch:=[]) (λ_ z=>nomatch z) (λb o _ _ _ q _=>q) (λb o _ _ _ q _=>⟨o.slots,q⟩)
  (λb o _ _ n=>by rw[su (λz=>by subst z;rw[e]at n;cases n)];exact n) (λb o _ q=>⟨o,q⟩) (λb xs q=>y6 e q (λz=>nomatch z) _) (λb o u q=>y6 e q (λz=>nomatch z) _)
  (λb ps q=>⟨#[],by rw[y6 e q (λz=>nomatch z) _];simp⟩) (λm q=>q) ?_ I.bare
 ·obtain⟨h,g,d,t,os⟩:=s;exact I'
 ·intro b u q;have st:∀{b:Addr} {u:HO},tY X.prog X.w H s.heap b u->tY X.prog X.w (upd H a (.frz ob (.dK kvs))) s.heap b u:=λ{b u} x=>x.stay (λ_ _ _ q=>q) (λc q=>y6 e q (λz=>nomatch z) _) λc xs q=>y6 e q (λz=>nomatch z) _
  by_cases hb:b=a
  ·subst hb;rw[sr]at q;cases q;exact⟨e1,st (I.hok b _ e)⟩
  ·rw[su hb]at q;exact st (I.hok b u q)
theorem PE.ghost(h:PE X e t):PE X e (λσ H Q=>t σ H λx H1=>Q x H1\/∃a kvs,H1 a=some (.dK kvs)/\∀o,Q x (upd H1 a (.frz o (.dK kvs)))):=λpins s σ H Q I hq=>
 thn (h pins s σ H _ I hq) λu s1 ⟨x,H1,I1,r1,q1⟩=>by
  rcases q1 with q|⟨a,kvs,e,q⟩
  ·exact⟨x,H1,I1,r1,q⟩
  ·obtain⟨o,I2⟩:=I1.freeze e;exact⟨x,_,I2,r1,q o⟩
end
end L2
namespace L4
open PySem PySem.Spec PyProof.Rows L2 L3
abbrev St:=L2.St
inductive D where
 |non|bl (b:Bool)|int (i:Int)|str (x:Str)
 |tup (ds:List D)|lst (ds:List D)
 |fzl (ds:List D)
 |obj (c:Nat) (ns:aF) (ds:List D)
 |dic (ks:List Key) (ds:List D)
abbrev aT:=List D
structure Bg where
 K:ay
 ca:Nat->Addr
mutual
def Rep(G:Bg)(H:Hp):D->V->Prop
 |.non,v=>v=.non
 |.bl b,v=>v=.bl b
 |.int i,v=>v=.int i
 |.str x,v=>v=.str x
 |.tup ds,v=>∃a xs,v=.ref a/\SqT G.K H a xs/\sj G H ds xs
 |.lst ds,v=>∃a xs,v=.ref a/\H a=some (.lst xs)/\sj G H ds xs
 |.fzl ds,v=>∃a xs,v=.ref a/\SqL G.K H a xs/\sj G H ds xs
 |.obj c ns ds,v=>∃a dx xs,v=.ref a/\H a=some (.ins (G.ca c) dx (ns.zip xs))/\ns.length=xs.length/\sj G H ds xs
 |.dic ks ds,v=>∃a o xs,v=.ref a/\H a=some (.frz o (.dK (ks.zip xs)))/\ks.length=xs.length/\sj G H ds xs
def sj(G:Bg)(H:Hp):aT->bI->Prop
 |[],xs=>xs=[]
 |d::ds,xs=>∃v r,xs=v::r/\Rep G H d v/\sj G H ds r
end
theorem SqT.mono{K:ay}(e:sA H H')(h:SqT K H a xs):SqT K H' a xs:=by
 rcases h with (h|⟨o,h⟩)|h
 ·exact .inl (.inl (e _ _ h))
 ·exact .inl (.inr ⟨o,e _ _ h⟩)
 ·exact .inr h
mutual
theorem Rep.mono(e:sA H H'):∀(d:D) (v:V),Rep G H d v->Rep G H' d v
 |.non,v,h=>by unfold Rep at h ⊢;exact h
 |.bl b,v,h=>by unfold Rep at h ⊢;exact h
 |.int i,v,h=>by unfold Rep at h ⊢;exact h
 |.str x,v,h=>by unfold Rep at h ⊢;exact h
 |.tup ds,v,h=>by unfold Rep at h ⊢;obtain⟨a,xs,rfl,h1,h2⟩:=h;exact⟨a,xs,rfl,SqT.mono e h1,sj.mono e ds xs h2⟩
 |.lst ds,v,h=>by unfold Rep at h ⊢;obtain⟨a,xs,rfl,h1,h2⟩:=h;exact⟨a,xs,rfl,e _ _ h1,sj.mono e ds xs h2⟩
 |.fzl ds,v,h=>by unfold Rep at h ⊢;obtain⟨a,xs,rfl,h1,h2⟩:=h;exact⟨a,xs,rfl,e.seq h1,sj.mono e ds xs h2⟩
 |.obj c ns ds,v,h=>by unfold Rep at h ⊢;obtain⟨a,dx,xs,rfl,h1,h2,h3⟩:=h;exact⟨a,dx,xs,rfl,e _ _ h1,h2,sj.mono e ds xs h3⟩
 |.dic ks ds,v,h=>by unfold Rep at h ⊢;obtain⟨a,o,xs,rfl,h1,h2,h3⟩:=h;exact⟨a,o,xs,rfl,e _ _ h1,h2,sj.mono e ds xs h3⟩
theorem sj.mono(e:sA H H'):∀(ds:aT) (xs:bI),sj G H ds xs->sj G H' ds xs
 |[],xs,h=>by unfold sj at h ⊢;exact h
 |d::ds,xs,h=>by unfold sj at h ⊢;obtain⟨v,r,rfl,h1,h2⟩:=h;exact⟨v,r,rfl,Rep.mono e d v h1,sj.mono e ds r h2⟩
end
section
variable{G:Bg}{H:Hp}
theorem tf:sj G H [] []:=by unfold sj;rfl
theorem sX(h:Rep G H d v)(r:sj G H ds xs):sj G H (d::ds) (v::xs):=by unfold sj;exact⟨v,xs,rfl,h,r⟩
theorem sq:∀{ds:aT} {xs:bI},sj G H ds xs->ds.length=xs.length
 |[],xs,h=>by unfold sj at h;subst h;rfl
 |d::ds,xs,h=>by unfold sj at h;obtain⟨v,r,rfl,_,h2⟩:=h;rw[aH,aH,sq h2]
theorem u6:∀{ds es:aT} {xs ys:bI},sj G H ds xs->sj G H es ys->sj G H (ds++es) (xs++ys)
 |[],es,xs,ys,h,h'=>by unfold sj at h;subst h;exact h'
 |d::ds,es,xs,ys,h,h'=>by unfold sj at h;obtain⟨v,r,rfl,h1,h2⟩:=h;exact sX h1 (u6 h2 h')
theorem uF:∀{ds:aT} {xs:bI} {i:Nat} {d:D},sj G H ds xs->ds[i]?=some d->∃v,xs[i]?=some v/\Rep G H d v
 |[],xs,i,d,h,e=>by simp at e
 |d'::ds,xs,i,d,h,e=>by
  unfold sj at h;obtain⟨v,r,rfl,h1,h2⟩:=h;cases i with
  |zero=>simp at e;subst e;exact⟨v,rfl,h1⟩
  |succ i=>simpa using uF (i:=i) (d:=d) h2 (by simpa using e)
theorem G1:∀{ds:aT} {xs:bI} (n:Nat),sj G H ds xs->sj G H (ds.drop n) (xs.drop n)
 |ds,xs,0,h=>h
 |[],xs,n+1,h=>by unfold sj at h;subst h;exact tf
 |d::ds,xs,n+1,h=>by unfold sj at h;obtain⟨v,r,rfl,h1,h2⟩:=h;exact G1 n h2
theorem G2:∀{ds:aT} {xs:bI} (n:Nat),sj G H ds xs->sj G H (ds.take n) (xs.take n)
 |ds,xs,0,h=>tf
 |[],xs,n+1,h=>by unfold sj at h;subst h;exact tf
 |d::ds,xs,n+1,h=>by unfold sj at h;obtain⟨v,r,rfl,h1,h2⟩:=h;exact sX h1 (G2 n h2)
theorem zt(h:SqT G.K H a xs)(r:sj G H ds xs):Rep G H (.tup ds) (.ref a):=by unfold Rep;exact⟨a,xs,rfl,h,r⟩
theorem yB(h:H a=some (.lst xs))(r:sj G H ds xs):Rep G H (.lst ds) (.ref a):=by unfold Rep;exact⟨a,xs,rfl,h,r⟩
theorem uV(i:Int):Rep G H (.int i) (.int i):=by unfold Rep;rfl
theorem vm(i:Bool):Rep G H (.bl i) (.bl i):=by unfold Rep;rfl
theorem zu(i:Str):Rep G H (.str i) (.str i):=by unfold Rep;rfl
theorem B9:Rep G H .non .non:=by unfold Rep;rfl
end
inductive Sl where
 |un
 |im (d:D)
 |ls (ds:aT)
 |pm (ds:aT)
 |dk (ks:List Key) (ds:aT)
 |ob (c:Nat) (ns:aF) (ds:aT)
abbrev bg:=List Sl
def Sl.own:Sl->Bool
 |.ls _=>true
 |.pm _=>true
 |.dk _ _=>true
 |.ob _ _ _=>true
 |_=>false
structure Fr where
 B0:Hp
 B:Hp
 A:List Addr
def BF(G:Bg)(F:Fr)(H0 H:Hp)(o:Option V):Sl->Prop
 |.un=>True
 |.im d=>∃v,o=some v/\Rep G H0 d v
 |.ls ds=>∃a xs,o=some (.ref a)/\H a=some (.lst xs)/\H0 a=none/\F.B a=none/\sj G H0 ds xs
 |.pm ds=>∃a xs,o=some (.ref a)/\H a=some (.lst xs)/\H0 a=none/\a∈F.A/\sj G H0 ds xs
 |.dk ks ds=>∃a xs,o=some (.ref a)/\H a=some (.dK (ks.zip xs))/\H0 a=none/\F.B a=none/\ks.length=xs.length/\sj G H0 ds xs
 |.ob c ns ds=>∃a dx xs,o=some (.ref a)/\H a=some (.ins (G.ca c) dx (ns.zip xs))/\H0 a=none/\a∈F.A/\ns.length=xs.length/\sj G H0 ds xs
structure sL(G:Bg)(F:Fr)(σ:St)(ρ:bg)(H0 H:Hp):Prop where
 sub:sA H0 H
 g0:sA F.B0 H0
 keep:∀b o,F.B b=some o->b∉F.A->H b=some o
 fr:∀b o,H0 b=some o->F.B0 b=some o\/F.B b=none
 am:∀a∈F.A,∃o,H a=some o
 len:σ.length=ρ.length
 sl:∀(i:Nat) (s:Sl),ρ[i]?=some s->BF G F H0 H (σ[i]?).join s
 ap:∀(i j:Nat) (s t:Sl) (a:Addr),i≠j->ρ[i]?=some s->ρ[j]?=some t->s.own=true->t.own=true->(σ[i]?).join=some (.ref a)->(σ[j]?).join=some (.ref a)->False
theorem BF.at(h:BF G F H0 H o s)(e:s.own=true):∃a u,o=some (.ref a)/\H a=some u/\H0 a=none/\(F.B a=none\/a∈F.A):=by
 cases s with
 |un=>cases e
 |im d=>cases e
 |ls ds=>obtain⟨a,xs,h1,h2,h3,h4,_⟩:=h;exact⟨a,_,h1,h2,h3,.inl h4⟩
 |pm ds=>obtain⟨a,xs,h1,h2,h3,h4,_⟩:=h;exact⟨a,_,h1,h2,h3,.inr h4⟩
 |dk ks ds=>obtain⟨a,xs,h1,h2,h3,h4,_⟩:=h;exact⟨a,_,h1,h2,h3,.inl h4⟩
 |ob c ns ds=>obtain⟨a,dx,xs,h1,h2,h3,h4,_⟩:=h;exact⟨a,_,h1,h2,h3,.inr h4⟩
theorem BF.grow(h:BF G F H0 H o s)(h0:sA H0 H0')(hk:∀a u,o=some (.ref a)->s.own=true->H a=some u->H' a=some u)
  (hn:∀a u,o=some (.ref a)->s.own=true->H a=some u->H0 a=none->H0' a=none):BF G F H0' H' o s:=by
 cases s with
 |un=>trivial
 |im d=>obtain⟨v,h1,h2⟩:=h;exact⟨v,h1,Rep.mono h0 _ _ h2⟩
 |ls ds=>obtain⟨a,xs,h1,h2,h3,h4,h5⟩:=h;exact⟨a,xs,h1,hk _ _ h1 rfl h2,hn _ _ h1 rfl h2 h3,h4,sj.mono h0 _ _ h5⟩
 |pm ds=>obtain⟨a,xs,h1,h2,h3,h4,h5⟩:=h;exact⟨a,xs,h1,hk _ _ h1 rfl h2,hn _ _ h1 rfl h2 h3,h4,sj.mono h0 _ _ h5⟩
 |dk ks ds=>obtain⟨a,xs,h1,h2,h3,h4,h5,h6⟩:=h;exact⟨a,xs,h1,hk _ _ h1 rfl h2,hn _ _ h1 rfl h2 h3,h4,h5,sj.mono h0 _ _ h6⟩
 |ob c ns ds=>obtain⟨a,dx,xs,h1,h2,h3,h4,h5,h6⟩:=h;exact⟨a,dx,xs,h1,hk _ _ h1 rfl h2,hn _ _ h1 rfl h2 h3,h4,h5,sj.mono h0 _ _ h6⟩
section
variable{G:Bg}{F:Fr}{σ:St}{ρ:bg}{H0 H H0' H':Hp}
theorem sL.bNone(R:sL G F σ ρ H0 H)(h:H b=none):F.B b=none:=by
 cases e:F.B b with
 |none=>rfl
 |some o=>
  by_cases ha:b∈F.A
  ·obtain⟨xs,q⟩:=R.am b ha;rw[q]at h;cases h
  ·have q:=R.keep b o e ha;rw[q]at h;cases h
theorem sL.grow(R:sL G F σ ρ H0 H)(hs:sA H H')(h0:sA H0 H0')(sub':sA H0' H')(hf:∀b o,H0' b=some o->H0 b=some o\/H b=none):sL G F σ ρ H0' H' where
 sub:=sub'
 g0:=R.g0.trans h0
 keep:=λb o e n=>hs _ _ (R.keep b o e n)
 fr:=λb o e=>by
  rcases hf b o e with q|q
  ·exact R.fr b o q
  ·exact .inr (R.bNone q)
 am:=λa ha=>let ⟨xs,q⟩:=R.am a ha;⟨xs,hs _ _ q⟩
 len:=R.len
 sl:=λi s e=>(R.sl i s e).grow h0 (λa u _ _ q=>hs _ _ q) λa u _ _ q q0=>by
  cases z:H0' a with
  |none=>rfl
  |some o=>
   rcases hf a o z with y|y
   ·rw[y]at q0;cases q0
   ·rw[y]at q;cases q
 ap:=R.ap
theorem sG(hp:H p=none)(o:HO):sA H (upd H p o):=sA.new (sA.refl H) hp o
theorem sL.h0none(R:sL G F σ ρ H0 H)(hp:H p=none):H0 p=none:=by
 cases e:H0 p with
 |none=>rfl
 |some o=>have:=R.sub _ _ e;rw[this]at hp;cases hp
theorem O3(s:sA H0 H)(p:Addr)(o:HO):sA (upd H0 p o) (upd H p o):=λb u e=>by
 by_cases hb:b=p
 ·subst hb;rw[sr]at e ⊢;exact e
 ·rw[su hb]at e ⊢;exact s _ _ e
theorem sL.newIm(R:sL G F σ ρ H0 H)(hp:H p=none)(o:HO):sL G F σ ρ (upd H0 p o) (upd H p o):=
 R.grow (sG hp o) (sG (R.h0none hp) o) (O3 R.sub p o) λb u e=>by
  by_cases hb:b=p
  ·subst hb;exact .inr hp
  ·rw[su hb]at e;exact .inl e
theorem sL.newOwn(R:sL G F σ ρ H0 H)(hp:H p=none)(o:HO):sL G F σ ρ H0 (upd H p o):=
 R.grow (sG hp o) (sA.refl _) (λb u e=>by rw[su (vw (R.sub _ _ e) hp)];exact R.sub _ _ e) λb u e=>.inl e
def Apart(σ:St)(ρ:bg)(p:Addr):Prop:=∀(i:Nat) (s:Sl),ρ[i]?=some s->s.own=true->(σ[i]?).join≠some (.ref p)
theorem sL.apart(R:sL G F σ ρ H0 H)(hp:H p=none):Apart σ ρ p:=λi s e so z=>by obtain⟨a,u,h1,h2,_⟩:=(R.sl i s e).at so;rw[z]at h1;cases h1;rw[hp]at h2;cases h2
theorem sL.freeze(R:sL G F σ ρ H0 H)(hp:H p=some o)(h0:H0 p=none)(hb:F.B p=none)(ap:Apart σ ρ p):sL G F σ ρ (upd H0 p o) H where
 sub:=λb u e=>by
  by_cases hb:b=p
  ·subst hb;rw[sr]at e;cases e;exact hp
  ·rw[su hb]at e;exact R.sub _ _ e
 g0:=R.g0.trans (sG h0 o)
 keep:=R.keep
 fr:=λb u e=>by
  by_cases hb':b=p
  ·subst hb';exact .inr hb
  ·rw[su hb']at e;exact R.fr _ _ e
 am:=R.am
 len:=R.len
 sl:=λi s e=>(R.sl i s e).grow (sG h0 o) (λa u _ _ q=>q) λa u z so q q0=>by rw[su (λy=>ap i s e so (by rw[z,y]))];exact q0
 ap:=R.ap
theorem Jx{σ:St}(hi:i<σ.length):((σ.set i v)[j]?).join=if j=i then v else (σ[j]?).join:=by
 rw[bX];by_cases h:i=j
 ·subst h;simp[hi]
 ·rw[ao h,ao (λz=>h z.symm)]
theorem sL.set(R:sL G F σ ρ H0 H)(hs:BF G F H0 H (some v) s)(ap:s.own=true->∀a,v=.ref a->∀(j:Nat) (t:Sl),j≠i->ρ[j]?=some t->t.own=true->(σ[j]?).join≠some (.ref a)):
  sL G F (σ.set i (some v)) (ρ.set i s) H0 H where
 sub:=R.sub
 g0:=R.g0
 keep:=R.keep
 fr:=R.fr
 am:=R.am
 len:=by rw[eC,eC,R.len]
 sl:=λj t e=>by
  rw[bX]at e;by_cases h:i=j
  ·subst h;rw[aj rfl]at e;split at e
   ·rename_i hi;cases e;rw[Jx (by rw[R.len];exact hi),aj rfl];exact hs
   ·cases e
  ·rw[ao h]at e;have hh:=R.sl j t e;rw[bX,ao h];exact hh
 ap:=λj k t u a hjk ej ek tj tk vj vk=>by
  have gen:∀{m:Nat} {x:Sl},(ρ.set i s)[m]?=some x->m≠i->ρ[m]?=some x/\((σ.set i (some v))[m]?).join=(σ[m]?).join:=λ{m x} e hm=>by rw[bX,ao (λz=>hm z.symm)]at e;exact⟨e,by rw[bX,ao (λz=>hm z.symm)]⟩
  have self:∀{x:Sl},(ρ.set i s)[i]?=some x->x=s/\((σ.set i (some v))[i]?).join=some v:=λ{x} e=>by
   rw[bX,aj rfl]at e;split at e
   ·rename_i hi;cases e;exact⟨rfl,by rw[Jx (by rw[R.len];exact hi),aj rfl]⟩
   ·cases e
  by_cases hj:j=i
  ·subst hj;obtain⟨rfl,ev⟩:=self ej;rw[ev]at vj;cases vj;obtain⟨e2,e3⟩:=gen ek (λz=>hjk z.symm);rw[e3]at vk;exact ap tj a rfl k u (λz=>hjk z.symm) e2 tk vk
  ·obtain⟨e2,e3⟩:=gen ej hj;by_cases hk:k=i
   ·subst hk;obtain⟨rfl,ev⟩:=self ek;rw[ev]at vk;cases vk;rw[e3]at vj;exact ap tk a rfl j t hj e2 tj vj
   ·obtain⟨e4,e5⟩:=gen ek hk;rw[e3]at vj;rw[e5]at vk;exact R.ap j k t u a hjk e2 e4 tj tk vj vk
theorem sL.setIm(R:sL G F σ ρ H0 H)(i:Nat)(h:Rep G H0 d v):sL G F (σ.set i (some v)) (ρ.set i (.im d)) H0 H:=R.set ⟨v,rfl,h⟩ λz=>by cases z
theorem sL.setLs(R:sL G F σ ρ H0 H)(i:Nat)(hp:H p=some (.lst xs))(h0:H0 p=none)(hb:F.B p=none)(ap:Apart σ ρ p)(h:sj G H0 ds xs):sL G F (σ.set i (some (.ref p))) (ρ.set i (.ls ds)) H0 H:=
 R.set ⟨p,xs,rfl,hp,h0,hb,h⟩ λ_ a e j t _ ej tj=>by cases e;exact ap j t ej tj
theorem sL.mut(R:sL G F σ ρ H0 H)(hi:ρ[i]?=some s)(so:s.own=true)(ha:(σ[i]?).join=some (.ref a))(ok:∀H',H' a=some o->BF G F H0 H' (some (.ref a)) s')
  (so':s'.own=true):sL G F σ (ρ.set i s') H0 (upd H a o):=by
 obtain⟨a',u,e1,e2,e3,e4⟩:=(R.sl i s hi).at so;rw[ha]at e1;cases e1;exact {
  sub:=λb w e=>by rw[su (λz=>by rw[z,e3]at e;cases e)];exact R.sub _ _ e
  g0:=R.g0
  keep:=λb w e n=>by
   have nb:b≠a:=λz=>by
    subst z;rcases e4 with q|q
    ·rw[q]at e;cases e
    ·exact n q
   rw[su nb];exact R.keep b w e n
  fr:=R.fr
  am:=λb hb=>by
   by_cases z:b=a
   ·subst z;exact⟨o,sr⟩
   ·rw[su z];exact R.am b hb
  len:=by rw[eC];exact R.len
  sl:=λj t e=>by
   rw[bX]at e;by_cases h:i=j
   ·subst h;rw[aj rfl]at e;split at e
    ·cases e;rw[ha];exact ok _ sr
    ·cases e
   ·rw[ao h]at e;refine(R.sl j t e).grow (sA.refl _) (λb w z to q=>?_) λb w _ _ _ q=>q;rw[su (λy=>by subst y;exact R.ap j i t s b (λy=>h y.symm) e hi to so z ha)];exact q
  ap:=λj k t u b hjk ej ek tj tk vj vk=>by
   have gen:∀{m:Nat} {x:Sl},(ρ.set i s')[m]?=some x->∃y,ρ[m]?=some y/\(x.own=true->y.own=true):=λ{m x} e=>by
    rw[bX]at e;by_cases h:i=m
    ·subst h;exact⟨s,hi,λ_=>so⟩
    ·rw[ao h]at e;exact⟨x,e,λq=>q⟩
   obtain⟨y,ey,oy⟩:=gen ej;obtain⟨z,ez,oz⟩:=gen ek;exact R.ap j k y z b hjk ey ez (oy tj) (oz tk) vj vk }
end
abbrev FE:=bg->Option (D×bg)
abbrev FT:=bg->Option (Bool×bg)
abbrev FA:=bg->Option (aT×bg)
def tF(G:Bg)(f:FE):TE:=λσ H Q=>∃F ρ H0 d ρ',sL G F σ ρ H0 H/\f ρ=some (d,ρ')/\∀v H0' H',sA H0 H0'->sL G F σ ρ' H0' H'->Rep G H0' d v->Q v H'
def tFT(G:Bg)(f:FT):TT:=λσ H Q=>∃F ρ H0 d ρ',sL G F σ ρ H0 H/\f ρ=some (d,ρ')/\∀H0' H',sA H0 H0'->sL G F σ ρ' H0' H'->Q d H'
def tFA(G:Bg)(f:FA):TA:=λσ H Q=>∃F ρ H0 ds ρ',sL G F σ ρ H0 H/\f ρ=some (ds,ρ')/\∀xs H0' H',sA H0 H0'->sL G F σ ρ' H0' H'->sj G H0' ds xs->Q xs H'
def tFN(G:Bg)(f:FA):TE:=λσ H Q=>∃F ρ H0 ds ρ',sL G F σ ρ H0 H/\f ρ=some (ds,ρ')/\∀p xs H0' H',sA H0 H0'->sL G F σ ρ' H0' H'->H' p=some (.lst xs)->H0' p=none->F.B p=none->Apart σ ρ' p->sj G H0' ds xs->Q (.ref p) H'
theorem PE.weak(h:PE X e t)(w:∀σ H Q,t' σ H Q->t σ H Q):PE X e t':=λpins s σ H Q I hq=>h pins s σ H Q I (w _ _ _ hq)
theorem PT.weak(h:PT X e t)(w:∀σ H Q,t' σ H Q->t σ H Q):PT X e t':=λpins s σ H Q I hq=>h pins s σ H Q I (w _ _ _ hq)
theorem PW.weak(h:PW X e t)(w:∀σ H Q,t' σ H Q->t σ H Q):PW X e t':=λwh pins s σ H Q I hq=>h wh pins s σ H Q I (w _ _ _ hq)
theorem PA.weak(h:PA X e t)(w:∀σ H Q,t' σ H Q->t σ H Q):PA X e t':=λpos pins s σ H Q I hq=>h pos pins s σ H Q I (w _ _ _ hq)
noncomputable def cC(d:D):FE:=λρ=>some (d,ρ)
noncomputable def cV(i:Nat):FE:=λρ=>match ρ[i]? with
 |some (.im d)=>some (d,ρ)
 |_=>none
noncomputable def c1(g:D->Option D) (f:FE):FE:=λρ=>match f ρ with
 |some (d,ρ')=>match g d with
  |some x=>some (x,ρ')
  |none=>none
 |none=>none
noncomputable def c2(g:D->D->Option D) (f f':FE):FE:=λρ=>match f ρ with
 |some (x,ρ1)=>match f' ρ1 with
  |some (y,ρ2)=>match g x y with
   |some z=>some (z,ρ2)
   |none=>none
  |none=>none
 |none=>none
theorem EH(h:c1 g f ρ=some (z,ρ')):∃d,f ρ=some (d,ρ')/\g d=some z:=by
 unfold c1 at h;cases e:f ρ with
 |none=>rw[e]at h;cases h
 |some p=>
  obtain⟨d,ρ1⟩:=p;rw[e]at h;cases e2:g d with
  |none=>simp only[e2]at h;cases h
  |some x=>simp only[e2]at h;cases h;exact⟨d,rfl,e2⟩
theorem Ca(h:c2 g f f' ρ=some (z,ρ')):∃x y ρ1,f ρ=some (x,ρ1)/\f' ρ1=some (y,ρ')/\g x y=some z:=by
 unfold c2 at h;cases e:f ρ with
 |none=>rw[e]at h;cases h
 |some p=>
  obtain⟨x,ρ1⟩:=p;simp only[e]at h;cases e2:f' ρ1 with
  |none=>simp only[e2]at h;cases h
  |some q=>
   obtain⟨y,ρ2⟩:=q;simp only[e2]at h;cases e3:g x y with
   |none=>simp only[e3]at h;cases h
   |some w=>simp only[e3]at h;cases h;exact⟨x,y,ρ1,rfl,e2,e3⟩
section
variable{X:Cx}{G:Bg}
theorem VN{i j pos}:PE X (.Constant (.int i) j pos) (tF G (cC (.int i))):=PE.weak KH λσ H Q h=>by obtain⟨F,ρ,H0,d,ρ',R,e,k⟩:=h;cases e;exact k _ _ _ (sA.refl _) R (uV i)
theorem Zr{i j pos}:PE X (.Constant (.bool i) j pos) (tF G (cC (.bl i))):=PE.weak YX λσ H Q h=>by obtain⟨F,ρ,H0,d,ρ',R,e,k⟩:=h;cases e;exact k _ _ _ (sA.refl _) R (vm i)
theorem VO{i j pos}:PE X (.Constant (.str i) j pos) (tF G (cC (.str i))):=PE.weak Ov λσ H Q h=>by obtain⟨F,ρ,H0,d,ρ',R,e,k⟩:=h;cases e;exact k _ _ _ (sA.refl _) R (zu i)
theorem VP{j pos}:PE X (.Constant .none j pos) (tF G (cC .non)):=PE.weak U2 λσ H Q h=>by obtain⟨F,ρ,H0,d,ρ',R,e,k⟩:=h;cases e;exact k _ _ _ (sA.refl _) R B9
theorem Sg(h:cV i ρ=some (d,ρ')):ρ[i]?=some (.im d)/\ρ'=ρ:=by
 unfold cV at h;split at h
 ·rename_i e;cases h;exact⟨e,rfl⟩
 ·cases h
theorem vz{α:Type}{o:Option (Option α)}{v:α}(h:o.join=some v):o=some (some v):=by
 cases o with
 |none=>cases h
 |some u=>cases u with
  |none=>cases h
  |some w=>cases h;rfl
theorem K6(h:PE X e (yL i)):PE X e (tF G (cV i)):=PE.weak h λσ H Q hh=>by
 sleep 5
 obtain⟨e1,rfl⟩:=Sg e;obtain⟨v,e2,e3⟩:=R.sl i _ e1;exact⟨v,vz e2,k _ _ _ (sA.refl _) R e3⟩
theorem Sh(h:PE X e (tC v))(r:∀H,Rep G H d v):PE X e (tF G (cC d)):=PE.weak h λσ H Q hh=>by obtain⟨F,ρ,H0,d',ρ',R,e,k⟩:=hh;cases e;exact k _ _ _ (sA.refl _) R (r _)
def OpD(G:Bg)(r:R2)(g:D->D->Option D):Prop:=∀x y z H0 H v u (Q:VK),g x y=some z->sA H0 H->Rep G H0 x v->Rep G H0 y u->(∀w,(∀H0',sA H0 H0'->Rep G H0' z w)->Q w H)->r v u H Q
theorem Mb(ho:OpD G r g):∀σ H Q,tF G (c2 g f f') σ H Q->tOp r (tF G f) (tF G f') σ H Q:=λσ H Q hh=>by
 sleep 5
 obtain⟨x,y,ρ1,e1,e2,e3⟩:=Ca e;refine⟨F,ρ,H0,x,ρ1,R,e1,λv H1 H1' s1 R1 r1=>⟨F,ρ1,H1,y,ρ',R1,e2,λu H2 H2' s2 R2 r2=>?_⟩⟩;exact ho x y d H2 H2' v u Q e3 R2.sub (Rep.mono s2 _ _ r1) r2 λw hw=>k w H2 H2' (s1.trans s2) R2 (hw _ (sA.refl _))
theorem Zs(hr:OpR X (cQ op) r)(ho:OpD G r g)(ha:PE X a (tF G f))(hb:PE X b (tF G f')):PE X (.BinOp a op b pos) (tF G (c2 g f f')):=PE.weak (OD hr ha hb) (Mb ho)
theorem VQ(hr:OpR X (br op) r)(ho:OpD G r g)(ha:PE X a (tF G f))(hb:PE X b (tF G f'))(hm:cX op b=false):PE X (.Compare a [op] [b] pos) (tF G (c2 g f f')):=PE.weak (RK hr ha hb hm) (Mb ho)
theorem Zt(hr:IxR X r)(ho:OpD G r g)(ha:PE X a (tF G f))(hb:PE X b (tF G f'))(hs:L9 b):PE X (.Subscript a b pos) (tF G (c2 g f f')):=PE.weak (UB hr ha hb hs) (Mb ho)
def cT(f:FE):FT:=λρ=>match f ρ with
 |some (.bl b,ρ')=>some (b,ρ')
 |_=>none
theorem Mc(h:cT f ρ=some (b,ρ')):f ρ=some (.bl b,ρ'):=by
 unfold cT at h;split at h
 ·rename_i e;cases h;exact e
 ·cases h
theorem Ir:∀σ H Q,tFT G (cT f) σ H Q->OG (tF G f) σ H Q:=λσ H Q hh=>by
 sleep 5
 refine⟨F,ρ,H0,_,ρ',R,Mc e,λv H0' H' s R' r=>?_⟩;unfold Rep at r;exact⟨d,r,k _ _ s R'⟩
theorem Si(hr:OpR X (br op) r)(ho:OpD G r g)(ha:PE X a (tF G f))(hb:PE X b (tF G f'))(hm:cX op b=false):
  PT X (.Compare a [op] [b] pos) (tFT G (cT (c2 g f f'))):=PT.weak (RM hr ha hb hm) λσ H Q hh=>by
 obtain⟨F,ρ,H0,d,ρ',R,e,k⟩:=Ir σ H Q hh;exact Mb ho σ H _ ⟨F,ρ,H0,d,ρ',R,e,k⟩
theorem Sj(h:PE X e (tF G f))(he:∀whole,isTrue e X.env whole=(do let v<-whole;standAt e.pos;holding [v] (truthy v)):=by intro _;rfl):PT X e (tFT G (cT f)):=PT.weak (U5 h he) λσ H Q hh=>by
 sleep 5
 refine⟨F,ρ,H0,_,ρ',R,Mc e,λv H0' H' s R' r=>?_⟩;unfold Rep at r;exact⟨d,r,k _ _ s R'⟩
def wc(f:FT):FT:=λρ=>match f ρ with
 |some (b,ρ')=>some (!b,ρ')
 |none=>none
def vp(f g:FT):FT:=λρ=>match f ρ with
 |some (true,ρ')=>g ρ'
 |r=>r
def xn(f g:FT):FT:=λρ=>match f ρ with
 |some (false,ρ')=>g ρ'
 |r=>r
theorem Sk(h:PT X a (tFT G f)):PT X (.UnaryOp .Not a pos) (tFT G (wc f)):=PT.weak (U8 h) λσ H Q hh=>by
 sleep 5
 unfold wc at e;cases e1:f ρ with
 |none=>simp only[e1]at e;cases e
 |some p=>obtain⟨b,ρ1⟩:=p;simp only[e1]at e;cases e;exact⟨F,ρ,H0,b,_,R,e1,λH0' H' s R'=>k _ _ s R'⟩
theorem VR:∀σ H Q,tFT G (vp f g) σ H Q->YY (tFT G f) (tFT G g) σ H Q:=λσ H Q hh=>by
 sleep 5
 unfold vp at e;cases e1:f ρ with
 |none=>simp only[e1]at e;cases e
 |some p=>
  obtain⟨b,ρ1⟩:=p;cases b with
  |true=>simp only[e1]at e;exact⟨F,ρ,H0,true,ρ1,R,e1,λH0' H' s R'=>Ip ⟨F,ρ1,H0',d,ρ',R',e,λH2 H2' s2 R2=>k _ _ (s.trans s2) R2⟩⟩
  |false=>simp only[e1]at e;cases e;exact⟨F,ρ,H0,false,_,R,e1,λH0' H' s R'=>Io (k _ _ s R')⟩
theorem Zu:∀σ H Q,tFT G (xn f g) σ H Q->tOr (tFT G f) (tFT G g) σ H Q:=λσ H Q hh=>by
 sleep 5
 unfold xn at e;cases e1:f ρ with
 |none=>simp only[e1]at e;cases e
 |some p=>
  obtain⟨b,ρ1⟩:=p;cases b with
  |false=>simp only[e1]at e;exact⟨F,ρ,H0,false,ρ1,R,e1,λH0' H' s R'=>Io ⟨F,ρ1,H0',d,ρ',R',e,λH2 H2' s2 R2=>k _ _ (s.trans s2) R2⟩⟩
  |true=>simp only[e1]at e;cases e;exact⟨F,ρ,H0,true,_,R,e1,λH0' H' s R'=>Ip (k _ _ s R')⟩
theorem O4(h:PT X a (tFT G f)):PW X (.BoolOp .And [a] pos) (tFT G f):=RB h
theorem Sm(h:PT X a (tFT G f)):PW X (.BoolOp .Or [a] pos) (tFT G f):=U6 h
theorem Md{rest:List Expr}(ha:PT X a (tFT G f))(hb:PW X (.BoolOp .And (b::rest) pos) (tFT G g)):PW X (.BoolOp .And (a::b::rest) pos) (tFT G (vp f g)):=PW.weak (U7 ha hb) VR
theorem O5{rest:List Expr}(ha:PT X a (tFT G f))(hb:PW X (.BoolOp .Or (b::rest) pos) (tFT G g)):PW X (.BoolOp .Or (a::b::rest) pos) (tFT G (xn f g)):=PW.weak (YZ ha hb) Zu
def uf(f g:FE):FE:=λρ=>match f ρ with
 |some (.bl true,ρ')=>g ρ'
 |some (.bl false,ρ')=>some (.bl false,ρ')
 |_=>none
def cOr(f g:FE):FE:=λρ=>match f ρ with
 |some (.bl false,ρ')=>g ρ'
 |some (.bl true,ρ')=>some (.bl true,ρ')
 |_=>none
def Dd(f:FE):FE:=λρ=>match f ρ with
 |some (.bl b,ρ')=>some (.bl !b,ρ')
 |_=>none
def cIf(c:FT)(f g:FE):FE:=λρ=>match c ρ with
 |some (true,ρ')=>f ρ'
 |some (false,ρ')=>g ρ'
 |none=>none
theorem VS{op}(h:PE X a (tF G f)):PE X (.BoolOp op [a] pos) (tF G f):=U9 h
theorem Jy{f:FE}{ρ:bg}:(∃ρ1,f ρ=some (.bl true,ρ1))\/(∃ρ1,f ρ=some (.bl false,ρ1))\/(∀b ρ1,f ρ≠some (.bl b,ρ1)):=by
 by_cases h1:∃ρ1,f ρ=some (.bl true,ρ1)
 ·exact .inl h1
 by_cases h2:∃ρ1,f ρ=some (.bl false,ρ1)
 ·exact .inr (.inl h2)
 refine .inr (.inr λb ρ1 z=>?_);cases b with
 |true=>exact h1 ⟨ρ1,z⟩
 |false=>exact h2 ⟨ρ1,z⟩
theorem NB(h:∀b ρ1,f ρ≠some (.bl b,ρ1)):uf f g ρ=none:=by
 unfold uf;split
 ·rename_i e;exact au e (h _ _)
 ·rename_i e;exact au e (h _ _)
 ·rfl
theorem O6(h:∀b ρ1,f ρ≠some (.bl b,ρ1)):cOr f g ρ=none:=by
 unfold cOr;split
 ·rename_i e;exact au e (h _ _)
 ·rename_i e;exact au e (h _ _)
 ·rfl
theorem VT{rest:List Expr}(ha:PE X a (tF G f))(hb:PE X (.BoolOp .And (b::rest) pos) (tF G g)):PE X (.BoolOp .And (a::b::rest) pos) (tF G (uf f g)):=PE.weak (Va ha hb) λσ H Q hh=>by
 sleep 5
 rcases Jy (f:=f) (ρ:=ρ)with ⟨ρ1,e1⟩|⟨ρ1,e1⟩|e1
 ·have e':g ρ1=some (d,ρ'):=by unfold uf at e;simp only[e1]at e;exact e
  refine⟨F,ρ,H0,_,ρ1,R,e1,λv H1 H1' s R' r=>?_⟩;unfold Rep at r;refine⟨true,r,?_⟩;exact Ip ⟨F,ρ1,H1,d,ρ',R',e',λv H2 H2' s2 R2 r2=>k _ _ _ (s.trans s2) R2 r2⟩
 ·have e':some (D.bl false,ρ1)=some (d,ρ'):=by unfold uf at e;simp only[e1]at e;exact e
  cases e';refine⟨F,ρ,H0,_,_,R,e1,λv H1 H1' s R' r=>?_⟩;have r':=r;unfold Rep at r';refine⟨false,r',?_⟩;exact Io (k _ _ _ s R' (vm false))
 ·rw[NB e1]at e;cases e
theorem Zv{rest:List Expr}(ha:PE X a (tF G f))(hb:PE X (.BoolOp .Or (b::rest) pos) (tF G g)):PE X (.BoolOp .Or (a::b::rest) pos) (tF G (cOr f g)):=PE.weak (Y2 ha hb) λσ H Q hh=>by
 sleep 5
 rcases Jy (f:=f) (ρ:=ρ)with ⟨ρ1,e1⟩|⟨ρ1,e1⟩|e1
 ·have e':some (D.bl true,ρ1)=some (d,ρ'):=by unfold cOr at e;simp only[e1]at e;exact e
  cases e';refine⟨F,ρ,H0,_,_,R,e1,λv H1 H1' s R' r=>?_⟩;unfold Rep at r;refine⟨true,r,?_⟩;exact Ip (k _ _ _ s R' (vm true))
 ·have e':g ρ1=some (d,ρ'):=by unfold cOr at e;simp only[e1]at e;exact e
  refine⟨F,ρ,H0,_,ρ1,R,e1,λv H1 H1' s R' r=>?_⟩;unfold Rep at r;refine⟨false,r,?_⟩;exact Io ⟨F,ρ1,H1,d,ρ',R',e',λv H2 H2' s2 R2 r2=>k _ _ _ (s.trans s2) R2 r2⟩
 ·rw[O6 e1]at e;cases e
theorem VU(ha:PE X a (tF G f)):PE X (.UnaryOp .Not a pos) (tF G (Dd f)):=PE.weak (Vb ha) λσ H Q hh=>by
 sleep 5
 unfold Dd at e;split at e
 ·rename_i b ρ1 e1
  sleep 2
  exact⟨b,r,k _ _ _ s R' (vm _)⟩
 ·cases e
theorem Zw(hc:PT X c (tFT G h))(ha:PE X a (tF G f))(hb:PE X b (tF G g)):PE X (.IfExp c a b pos) (tF G (cIf h f g)):=PE.weak (Ow hc ha hb) λσ H Q hh=>by
 sleep 5
 unfold cIf at e;cases e1:h ρ with
 |none=>simp only[e1]at e;cases e
 |some p=>
  obtain⟨b,ρ1⟩:=p;refine⟨F,ρ,H0,b,ρ1,R,e1,λH1 H1' s R'=>?_⟩;cases b with
  |true=>simp only[e1]at e;exact Ip ⟨F,ρ1,H1,d,ρ',R',e,λv H2 H2' s2 R2 r2=>k _ _ _ (s.trans s2) R2 r2⟩
  |false=>simp only[e1]at e;exact Io ⟨F,ρ1,H1,d,ρ',R',e,λv H2 H2' s2 R2 r2=>k _ _ _ (s.trans s2) R2 r2⟩
noncomputable def sI:FA:=λρ=>some ([],ρ)
noncomputable def rV(f:FE) (g:FA):FA:=λρ=>match f ρ with
 |some (d,ρ1)=>match g ρ1 with
  |some (ds,ρ2)=>some (d::ds,ρ2)
  |none=>none
 |none=>none
theorem zv(h:rV f g ρ=some (ds,ρ')):∃d r ρ1,f ρ=some (d,ρ1)/\g ρ1=some (r,ρ')/\ds=d::r:=by
 unfold rV at h;cases e:f ρ with
 |none=>rw[e]at h;cases h
 |some p=>
  obtain⟨x,ρ1⟩:=p;simp only[e]at h;cases e2:g ρ1 with
  |none=>simp only[e2]at h;cases h
  |some q=>obtain⟨y,ρ2⟩:=q;simp only[e2]at h;cases h;exact⟨x,y,ρ1,rfl,e2,rfl⟩
theorem v3:PA X [] (tFA G sI):=PA.weak yc λσ H Q hh=>by
 sleep 5
 cases e;exact k _ _ _ (sA.refl _) R tf
theorem u7(ha:PE X e (tF G f))(hr:PA X es (tFA G g))(hs:aA (e::es) X.env=(false,eval e X.env)::aA es X.env:=by rfl):PA X (e::es) (tFA G (rV f g)):=PA.weak (uD ha hr hs) λσ H Q hh=>by
 sleep 5
 obtain⟨x,r,ρ1,e1,e2,rfl⟩:=zv e;exact⟨F,ρ,H0,x,ρ1,R,e1,λv H1 H1' s R' rv=>⟨F,ρ1,H1,r,ρ',R',e2,λxs H2 H2' s2 R2 rs=>k _ _ _ (s.trans s2) R2 (sX (Rep.mono s2 _ _ rv) rs)⟩⟩
def tL(g:FA):FE:=λρ=>match g ρ with
 |some (ds,ρ')=>if ds.length<=1000 then some (.tup ds,ρ')else none
 |none=>none
def sN(g:FA):FA:=λρ=>match g ρ with
 |some (ds,ρ')=>if ds.length<=1000 then some (ds,ρ')else none
 |none=>none
theorem VW{x1}(h:PA X es (tFA G g)):PE X (.Tuple es x1 pos) (tF G (tL g)):=PE.weak (Vt h) λσ H Q hh=>by
 sleep 5
 unfold tL at e;cases e1:g ρ with
 |none=>simp only[e1]at e;cases e
 |some p=>
  obtain⟨ds,ρ1⟩:=p;simp only[e1]at e;split at e
  ·rename_i hl;cases e;refine⟨F,ρ,H0,_,_,R,e1,λxs H1 H1' s R' rs=>⟨by rw[<-sq rs];exact yd hl,λp hp=>?_⟩⟩;exact k _ _ _ (s.trans (sG (R'.h0none hp) _)) (R'.newIm hp _) (zt (SqT.of sr) (sj.mono (sG (R'.h0none hp) _) _ _ rs))
  ·cases e
theorem Sn(h:PA X es (tFA G g)):PE X (.List es pos) (tFN G (sN g)):=PE.weak (OL h) λσ H Q hh=>by
 sleep 5
 unfold sN at e;cases e1:g ρ with
 |none=>simp only[e1]at e;cases e
 |some p=>
  obtain⟨ds,ρ1⟩:=p;simp only[e1]at e;split at e
  ·rename_i hl;cases e;refine⟨F,ρ,H0,_,_,R,e1,λxs H1 H1' s R' rs=>⟨by rw[<-sq rs];exact yd hl,λp hp=>?_⟩⟩;exact k _ _ _ _ s (R'.newOwn hp _) sr (R'.h0none hp) (R'.bNone hp) (R'.apart hp) rs
  ·cases e
def cL(g:FA):FE:=λρ=>match g ρ with
 |some (ds,ρ')=>some (.lst ds,ρ')
 |none=>none
theorem So(h:cL g ρ=some (d,ρ')):∃ds,g ρ=some (ds,ρ')/\d=.lst ds:=by
 unfold cL at h;cases e:g ρ with
 |none=>simp only[e]at h;cases h
 |some p=>obtain⟨ds,ρ1⟩:=p;simp only[e]at h;cases h;exact⟨ds,rfl,rfl⟩
theorem Zx:∀σ H Q,tF G (cL g) σ H Q->tFN G g σ H Q:=λσ H Q hh=>by
 sleep 5
 obtain⟨ds,e1,rfl⟩:=So e;refine⟨F,ρ,H0,ds,ρ',R,e1,λp xs H1 H1' s R' hp h0 hb ap rs=>?_⟩;exact k _ _ _ (s.trans (sG h0 _)) (R'.freeze hp h0 hb ap) (yB sr (sj.mono (sG h0 _) _ _ rs))
theorem VX(h:PE X e (tFN G g)):PE X e (tF G (cL g)):=PE.weak h Zx
end
inductive Out where
 |nx (ρ:bg)|bk (ρ:bg)|ct (ρ:bg)
 |rt (d:D) (ρ:bg)
 |rn (ds:aT) (ρ:bg)
abbrev FS:=bg->Option Out
def Me(G:Bg)(F:Fr)(H0:Hp)(E:Ends):Out->Prop
 |.nx ρ'=>∀σ' H0' H',sA H0 H0'->sL G F σ' ρ' H0' H'->E.nx σ' H'
 |.bk ρ'=>∀σ' H0' H',sA H0 H0'->sL G F σ' ρ' H0' H'->E.bk σ' H'
 |.ct ρ'=>∀σ' H0' H',sA H0 H0'->sL G F σ' ρ' H0' H'->E.ct σ' H'
 |.rt d ρ'=>∀v σ' H0' H',sA H0 H0'->sL G F σ' ρ' H0' H'->Rep G H0' d v->E.rt v H'
 |.rn ds ρ'=>∀p xs σ' H0' H',sA H0 H0'->sL G F σ' ρ' H0' H'->H' p=some (.lst xs)->H0' p=none->F.B p=none->Apart σ' ρ' p->sj G H0' ds xs->E.rt (.ref p) H'
def tFS(G:Bg)(f:FS):TS:=λE σ H=>∃F ρ H0 o,sL G F σ ρ H0 H/\f ρ=some o/\Me G F H0 E o/\(∀p,E.rt p=E.rt p)
theorem Me.back(h:Me G F H0 E o)(s:sA H0 H1):Me G F H1 E o:=by
 cases o with
 |nx ρ=>exact λσ' H0' H' s' R=>h σ' H0' H' (s.trans s') R
 |bk ρ=>exact λσ' H0' H' s' R=>h σ' H0' H' (s.trans s') R
 |ct ρ=>exact λσ' H0' H' s' R=>h σ' H0' H' (s.trans s') R
 |rt d ρ=>exact λv σ' H0' H' s' R=>h v σ' H0' H' (s.trans s') R
 |rn ds ρ=>exact λp xs σ' H0' H' s' R=>h p xs σ' H0' H' (s.trans s') R
theorem PS.weak(h:PS X e t)(w:∀E σ H,t' E σ H->t E σ H):PS X e t':=λpins s σ H D I hq=>h pins s σ H D I (w _ _ _ hq)
theorem PSs.weak(h:PSs X e t)(w:∀E σ H,t' E σ H->t E σ H):PSs X e t':=λpins s σ H D I hq=>h pins s σ H D I (w _ _ _ hq)
def sF:FS:=λρ=>some (.nx ρ)
noncomputable def r6(f g:FS):FS:=λρ=>match f ρ with
 |some (.nx ρ')=>g ρ'
 |r=>r
section
variable{X:Cx}{G:Bg}
theorem VY(h:tFS G sF E σ H):E.nx σ H:=by obtain⟨F,ρ,H0,o,R,e,k,_⟩:=h;cases e;exact k _ _ _ (sA.refl _) R
theorem Sq:PSs X [] (tFS G sF):=PSs.weak RD λE σ H h=>VY h
theorem O7{st:Stmt}{rest:List Stmt}(h1:PS X st (tFS G f))(h2:PSs X rest (tFS G g)):PSs X (st::rest) (tFS G (r6 f g)):=PSs.weak (EO h1 h2) λE σ H h=>by
 obtain⟨F,ρ,H0,o,R,e,k,k2⟩:=h;unfold r6 at e;cases e1:f ρ with
 |none=>simp only[e1]at e;cases e
 |some o1=>
  cases o1 with
  |nx ρ1=>simp only[e1]at e;exact⟨F,ρ,H0,_,R,e1,λσ' H0' H' s R'=>⟨F,ρ1,H0',o,R',e,k.back s,k2⟩,k2⟩
  |bk ρ1=>simp only[e1]at e;cases e;exact⟨F,ρ,H0,_,R,e1,k,k2⟩
  |ct ρ1=>simp only[e1]at e;cases e;exact⟨F,ρ,H0,_,R,e1,k,k2⟩
  |rt d ρ1=>simp only[e1]at e;cases e;exact⟨F,ρ,H0,_,R,e1,k,k2⟩
  |rn d ρ1=>simp only[e1]at e;cases e;exact⟨F,ρ,H0,_,R,e1,k,k2⟩
theorem Sr{st:Stmt}(h1:PS X st (tFS G f)):PSs X [st] (tFS G f):=HY h1
noncomputable def sy(f:FE):FS:=λρ=>match f ρ with
 |some (d,ρ')=>some (.rt d ρ')
 |none=>none
noncomputable def uI(f:FA):FS:=λρ=>match f ρ with
 |some (d,ρ')=>some (.rn d ρ')
 |none=>none
theorem sW{α:Type}{f:bg->Option (α×bg)}{ρ:bg}:f ρ=none\/∃d ρ',f ρ=some (d,ρ'):=by
 cases e:f ρ with
 |none=>exact .inl rfl
 |some p=>exact .inr ⟨p.1,p.2,rfl⟩
theorem Ss(h:PE X e (tF G f)):PS X (.Return (some e) pos) (tFS G (sy f)):=PS.weak (KI h) λE σ H hh=>by
 obtain⟨F,ρ,H0,o,R,e,k,k2⟩:=hh;unfold sy at e;rcases sW (f:=f) (ρ:=ρ)with e1|⟨d,ρ',e1⟩<;>simp only[e1]at e
 ·cases e
 ·cases e;exact⟨F,ρ,H0,d,ρ',R,e1,λv H0' H' s R' r=>k _ _ _ _ s R' r⟩
theorem O8(h:PE X e (tFN G f)):PS X (.Return (some e) pos) (tFS G (uI f)):=PS.weak (KI h) λE σ H hh=>by
 obtain⟨F,ρ,H0,o,R,e,k,k2⟩:=hh;unfold uI at e;rcases sW (f:=f) (ρ:=ρ)with e1|⟨d,ρ',e1⟩<;>simp only[e1]at e
 ·cases e
 ·cases e;exact⟨F,ρ,H0,d,ρ',R,e1,λp xs H0' H' s R' h1 h2 h3 h4 h5=>k _ _ _ _ _ s R' h1 h2 h3 h4 h5⟩
noncomputable def sY(f:FE):FS:=λρ=>match f ρ with
 |some (_,ρ')=>some (.nx ρ')
 |none=>none
theorem O9{pos:Pos}(h:PE X e (tF G f))(hs:dt e none pos.line X.env=pure false:=by rfl):PS X (.Expr e pos) (tFS G (sY f)):=PS.weak (LW h hs) λE σ H hh=>by
 obtain⟨F,ρ,H0,o,R,e,k,k2⟩:=hh;unfold sY at e;rcases sW (f:=f) (ρ:=ρ)with e1|⟨d,ρ',e1⟩<;>simp only[e1]at e
 ·cases e
 ·cases e;exact⟨F,ρ,H0,d,ρ',R,e1,λv H0' H' s R' r=>k _ _ _ s R'⟩
noncomputable def sIf(c:FT) (f g:FS):FS:=λρ=>match c ρ with
 |some (true,ρ')=>f ρ'
 |some (false,ρ')=>g ρ'
 |none=>none
theorem VZ(hc:PT X c (tFT G h))(ha:PSs X a (tFS G f))(hb:PSs X b (tFS G g)):PS X (.If c a b pos) (tFS G (sIf h f g)):=PS.weak (Y5 hc ha hb) λE σ H hh=>by
 obtain⟨F,ρ,H0,o,R,e,k,k2⟩:=hh;unfold sIf at e;rcases sW (f:=h) (ρ:=ρ)with e1|⟨d,ρ',e1⟩
 ·simp only[e1]at e;cases e
 ·refine⟨F,ρ,H0,d,ρ',R,e1,λH0' H' s R'=>?_⟩;cases d with
  |true=>simp only[e1]at e;exact Ip ⟨F,ρ',H0',o,R',e,k.back s,k2⟩
  |false=>simp only[e1]at e;exact Io ⟨F,ρ',H0',o,R',e,k.back s,k2⟩
abbrev FG:=D->bg->Option bg
def tFG(G:Bg)(n:Nat)(g:FG):TG:=λv σ H Q=>∃F ρ H0 d ρ',sL G F σ ρ H0 H/\Rep G H0 d v/\g d ρ=some ρ'/\∀σ',σ'.drop n=σ.drop n->sL G F σ' ρ' H0 H->Q σ' H
def Pa(G:Bg)(n:Nat)(g:aT->bg->Option bg):TGs:=λvs σ H Q=>∃F ρ H0 ds ρ',sL G F σ ρ H0 H/\sj G H0 ds vs/\g ds ρ=some ρ'/\∀σ',σ'.drop n=σ.drop n->sL G F σ' ρ' H0 H->Q σ' H
theorem PG.weak(h:PG X e t)(w:∀v σ H Q,t' v σ H Q->t v σ H Q):PG X e t':=λpins s σ H x u Q I r hq=>h pins s σ H x u Q I r (w _ _ _ _ hq)
theorem PGs.weak(h:PGs X e t)(w:∀v σ H Q,t' v σ H Q->t v σ H Q):PGs X e t':=λpins s σ H x u Q I r hq=>h pins s σ H x u Q I r (w _ _ _ _ hq)
def gN(i:Nat):FG:=λd ρ=>some (ρ.set i (.im d))
theorem Jz{α:Type}{l:List α}{i n:Nat}{x:α}(h:i<n):(l.set i x).drop n=l.drop n:=by apply nh;intro j;rw[de,de,bX,ao (by omega)]
theorem Pb(n:Nat)(h:PG X tg (yZ i))(hi:i<n):PG X tg (tFG G n (gN i)):=PG.weak h λv σ H Q hh=>by obtain⟨F,ρ,H0,d,ρ',R,r,e,k⟩:=hh;cases e;exact k _ (Jz hi) (R.setIm i r)
def Fc:aT->bg->Option bg:=λds ρ=>match ds with
 |[]=>some ρ
 |_=>none
def v7(g:FG)(gs:aT->bg->Option bg):aT->bg->Option bg:=λds ρ=>match ds with
 |d::r=>match g d ρ with
  |some ρ'=>gs r ρ'
  |none=>none
 |[]=>none
theorem Su(h:PGs X [] Y6):PGs X [] (Pa G n Fc):=PGs.weak h λv σ H Q hh=>by
 obtain⟨F,ρ,H0,ds,ρ',R,r,e,k⟩:=hh;cases ds with
 |nil=>cases e;unfold sj at r;exact⟨r,k _ rfl R⟩
 |cons d ds=>cases e
theorem Pc(h:PGs X (e::es) (Ux (tFG G n g) (Pa G n gs))):PGs X (e::es) (Pa G n (v7 g gs)):=PGs.weak h λv σ H Q hh=>by
 obtain⟨F,ρ,H0,ds,ρ',R,r,e,k⟩:=hh;cases ds with
 |nil=>cases e
 |cons d ds=>
  unfold sj at r;obtain⟨v1,r1,rfl,q1,q2⟩:=r;unfold v7 at e;cases e1:g d ρ with
  |none=>simp only[e1]at e;cases e
  |some ρ1=>simp only[e1]at e;exact⟨v1,r1,rfl,F,ρ,H0,d,ρ1,R,q1,e1,λσ' s R'=>⟨F,ρ1,H0,ds,ρ',R',q2,e,λσ'' s' R''=>k _ (s'.trans s) R''⟩⟩
def gT(gs:aT->bg->Option bg)(n:Nat):FG:=λd ρ=>match d with
 |.tup ds=>if ds.length=n then gs ds ρ else none
 |_=>none
theorem Sv(h:PG X (.Tuple es k pos) (Vc G.K m (Pa G n gs))):PG X (.Tuple es k pos) (tFG G n (gT gs m)):=PG.weak h λv σ H Q hh=>by
 obtain⟨F,ρ,H0,d,ρ',R,r,e,k⟩:=hh;cases d with
 |tup ds=>
  unfold gT at e;simp only at e;split at e
  ·rename_i hl;unfold Rep at r;obtain⟨a,xs,rfl,h1,h2⟩:=r;exact⟨a,xs,rfl,SqT.mono R.sub h1,by rw[<-sq h2];exact hl,F,ρ,H0,ds,ρ',R,h2,e,k⟩
  ·cases e
 |_=>cases e
def K7(f:FE)(g:FG):FS:=λρ=>match f ρ with
 |some (d,ρ')=>match g d ρ' with
  |some ρ2=>some (.nx ρ2)
  |none=>none
 |none=>none
theorem Sw{st:Stmt}(h:PS X st (CU (tF G f) (tFG G n g))):PS X st (tFS G (K7 f g)):=PS.weak h λE σ H hh=>by
 obtain⟨F,ρ,H0,o,R,e,k,k2⟩:=hh;unfold K7 at e;rcases sW (f:=f) (ρ:=ρ)with e1|⟨d,ρ',e1⟩<;>simp only[e1]at e
 ·cases e
 ·cases e2:g d ρ' with
  |none=>simp only[e2]at e;cases e
  |some ρ2=>simp only[e2]at e;cases e;exact⟨F,ρ,H0,d,ρ',R,e1,λv H0' H' s R' r=>⟨F,ρ',H0',d,ρ2,R',r,e2,λσ' _ R2=>k _ _ _ s R2⟩⟩
def sO(i:Nat)(f:FE):FS:=λρ=>match f ρ with
 |some (d,ρ')=>some (.nx (ρ'.set i (.im d)))
 |none=>none
theorem Mg{st:Stmt}(h:PS X st (CU (tF G f) (yZ i))):PS X st (tFS G (sO i f)):=PS.weak h λE σ H hh=>by
 obtain⟨F,ρ,H0,o,R,e,k,k2⟩:=hh;unfold sO at e;rcases sW (f:=f) (ρ:=ρ)with e1|⟨d,ρ',e1⟩<;>simp only[e1]at e
 ·cases e
 ·cases e;exact⟨F,ρ,H0,d,ρ',R,e1,λv H0' H' s R' r=>k _ _ _ s (R'.setIm i r)⟩
def uT(i:Nat)(f:FA):FS:=λρ=>match f ρ with
 |some (d,ρ')=>some (.nx (ρ'.set i (.ls d)))
 |none=>none
theorem Pd{st:Stmt}(h:PS X st (CU (tFN G f) (yZ i))):PS X st (tFS G (uT i f)):=PS.weak h λE σ H hh=>by
 obtain⟨F,ρ,H0,o,R,e,k,k2⟩:=hh;unfold uT at e;rcases sW (f:=f) (ρ:=ρ)with e1|⟨d,ρ',e1⟩<;>simp only[e1]at e
 ·cases e
 ·cases e;exact⟨F,ρ,H0,d,ρ',R,e1,λp xs H0' H' s R' h1 h2 h3 h4 h5=>k _ _ _ s (R'.setLs i h1 h2 h3 h4 h5)⟩
def stE(n:Nat)(ds:aT):bg:=ds.map Sl.im++eE (n - ds.length) .un
def fnD(np n:Nat)(f:FS):aT->Option D:=λds=>if ds.length=np then match f (stE n ds)with
 |some (.rt d _)=>some d
 |some (.rn ds _)=>some (.lst ds)
 |some (.nx _)=>some .non
 |_=>none
 else none
def fnN(np n:Nat)(f:FS):aT->Option aT:=λds=>if ds.length=np then match f (stE n ds)with
 |some (.rn ds _)=>some ds
 |_=>none
 else none
def spF(G:Bg)(g:aT->Option D):Sp:=λvs H Q _=>∃H0 ds d,sA H0 H/\sj G H0 ds vs/\g ds=some d/\
 ∀v H0' H',sA H0 H0'->sA H0' H'->sA H H'->(∀b o,H0' b=some o->H0 b=some o\/H b=none)->Rep G H0' d v->Q v H'
def spN(G:Bg)(g:aT->Option aT):Sp:=λvs H Q _=>∃H0 ds d,sA H0 H/\sj G H0 ds vs/\g ds=some d/\
 ∀p xs H0' H',sA H0 H0'->sA H0' H'->sA H H'->(∀b o,H0' b=some o->H0 b=some o\/H b=none)->H p=none->H' p=some (.lst xs)->H0' p=none->sj G H0' d xs->Q (.ref p) H'
theorem EI{n:Nat}{ds:aT}{i:Nat}{s:Sl}(h:(stE n ds)[i]?=some s):s=.un\/∃d,ds[i]?=some d/\s=.im d:=by
 unfold stE at h;by_cases hi:i<ds.length
 ·rw[cW (by simpa using hi),bB,aP hi]at h;cases h;exact .inr ⟨_,aP hi,rfl⟩
 ·rw[cI (by simpa using hi),fL]at h;split at h
  ·cases h;exact .inl rfl
  ·cases h
theorem vL{N:aF}{vs:bI}{i:Nat}{v:V}(h:vs[i]?=some v):((L2.start N vs)[i]?).join=some v:=by unfold L2.start;have hi:=(bW.mp h).1;rw[cW (by simpa using hi),bB,h];rfl
theorem G3{N:aF}(s:sA H0 H)(r:sj G H0 ds vs)(hl:vs.length<=N.length):sL G ⟨H0,H,[]⟩ (L2.start N vs) (stE N.length ds) H0 H where
 sub:=s
 g0:=sA.refl _
 keep:=λb o e _=>e
 fr:=λb o e=>.inl e
 am:=λa h=>by cases h
 len:=by unfold L2.start stE;rw[aC,aC,ah,ah,cp,cp,sq r]
 sl:=λi t e=>by
  rcases EI e with rfl|⟨d,e1,rfl⟩
  ·trivial
  ·obtain⟨v,e2,e3⟩:=uF r e1;exact⟨v,vL e2,e3⟩
 ap:=λi j t u a _ e _ ht=>by rcases EI e with rfl|⟨d,_,rfl⟩<;>cases ht
theorem JA(h:fnD np n f ds=some d):ds.length=np/\((∃ρ,f (stE n ds)=some (.rt d ρ))\/(∃xs ρ,f (stE n ds)=some (.rn xs ρ)/\d=.lst xs)\/∃ρ,f (stE n ds)=some (.nx ρ)/\d=.non):=by
 unfold fnD at h;split at h
 ·rename_i hl;refine⟨hl,?_⟩;split at h
  ·rename_i e;cases h;exact .inl ⟨_,e⟩
  ·rename_i e;cases h;exact .inr (.inl ⟨_,_,e,rfl⟩)
  ·rename_i e;cases h;exact .inr (.inr ⟨_,e,rfl⟩)
  ·cases h
 ·cases h
theorem JB(h:fnN np n f ds=some xs):ds.length=np/\∃ρ,f (stE n ds)=some (.rn xs ρ):=by
 unfold fnN at h;split at h
 ·rename_i hl;refine⟨hl,?_⟩;split at h
  ·rename_i e;cases h;exact⟨_,e⟩
  ·cases h
 ·cases h
end
theorem Sx{N:aF}(hN:np<=N.length)(h:spF G (fnD np N.length f) vs H Q E):tFS G f { nx:=λ_ H'=>Q .non H',rt:=Q } (L2.start N vs) H:=by
 obtain⟨H0,ds,d,s,r,e,k⟩:=h;obtain⟨hl,e'⟩:=JA e;clear e;have R:=G3 (N:=N) s r (by rw[<-sq r,hl];exact hN);have fin:∀{σ':St} {ρ':bg} {H0' H':Hp},sL G ⟨H0,H,[]⟩ σ' ρ' H0' H'->sA H H'/\sA H0' H'/\∀b o,H0' b=some o->H0 b=some o\/H b=none:=λR'=>⟨λb o e=>R'.keep b o e (by simp),R'.sub,R'.fr⟩;rcases e' with ⟨ρ,e⟩|⟨xs,ρ,e,rfl⟩|⟨ρ,e,rfl⟩
 ·refine⟨_,_,H0,_,R,e,λv σ' H0' H' s' R' rv=>?_,λ_=>rfl⟩;obtain⟨h1,h2,h3⟩:=fin R';exact k v H0' H' s' h2 h1 h3 rv
 ·refine⟨_,_,H0,_,R,e,λp ys σ' H0' H' s' R' hp h0 hb ap rs=>?_,λ_=>rfl⟩;have R2:=R'.freeze hp h0 hb ap;obtain⟨h1,h2,h3⟩:=fin R2;exact k _ _ H' (s'.trans (sG h0 _)) h2 h1 h3 (yB sr (sj.mono (sG h0 _) _ _ rs))
 ·refine⟨_,_,H0,_,R,e,λσ' H0' H' s' R'=>?_,λ_=>rfl⟩;obtain⟨h1,h2,h3⟩:=fin R';exact k _ H0' H' s' h2 h1 h3 B9
theorem Sy{N:aF}(hN:np<=N.length)(h:spN G (fnN np N.length f) vs H Q E):tFS G f { nx:=λ_ H'=>Q .non H',rt:=Q } (L2.start N vs) H:=by obtain⟨H0,ds,d,s,r,e,k⟩:=h;obtain⟨hl,ρ,e⟩:=JB e;have R:=G3 (N:=N) s r (by rw[<-sq r,hl];exact hN);refine⟨_,_,H0,_,R,e,λp ys σ' H0' H' s' R' hp h0 hb ap rs=>?_,λ_=>rfl⟩;exact k p ys H0' H' s' R'.sub (λb o e=>R'.keep b o e (by simp)) R'.fr hb hp h0 rs
theorem Zy(hg:∀ds d,g ds=some d->ds.length=np):∀vs H Q E,spF G g vs H Q E->vs.length=np:=λvs H Q E h=>by obtain⟨H0,ds,d,_,r,e,_⟩:=h;rw[<-sq r];exact hg _ _ e
theorem Zz(hg:∀ds d,g ds=some d->ds.length=np):∀vs H Q E,spN G g vs H Q E->vs.length=np:=λvs H Q E h=>by obtain⟨H0,ds,d,_,r,e,_⟩:=h;rw[<-sq r];exact hg _ _ e
theorem SA:∀ds d,fnD np n f ds=some d->ds.length=np:=λ_ _ h=>(JA h).1
theorem SC:∀ds d,fnN np n f ds=some d->ds.length=np:=λ_ _ h=>(JB h).1
def De{α:Type}(g:aT->Option α)(a:FA):bg->Option (α×bg):=λρ=>match a ρ with
 |some (ds,ρ')=>match g ds with
  |some d=>some (d,ρ')
  |none=>none
 |none=>none
abbrev r9(g:aT->Option D)(a:FA):FE:=De g a
abbrev tp(g:aT->Option aT)(a:FA):FA:=De g a
theorem BG{α:Type}{g:aT->Option α}{a:FA}{ρ ρ':bg}{d:α}(h:De g a ρ=some (d,ρ')):∃ds,a ρ=some (ds,ρ')/\g ds=some d:=by
 unfold De at h;rcases sW (f:=a) (ρ:=ρ)with e1|⟨ds,ρ1,e1⟩<;>simp only[e1]at h
 ·cases h
 ·cases e2:g ds with
  |none=>simp only[e2]at h;cases h
  |some x=>simp only[e2]at h;cases h;exact⟨ds,e1,e2⟩
section
variable{X:Cx}{G:Bg}
theorem SD(hd:∀H,sj G H dds dvs):∀σ H Q,tF G (r9 (λds=>g (ds++dds)) a) σ H Q->Al (spF G g) dvs E (tFA G a) σ H Q:=λσ H Q hh=>by
 sleep 5
 obtain⟨ds,e1,e2⟩:=BG e;refine⟨F,ρ,H0,ds,ρ',R,e1,λxs H1 H1' s R' rs=>⟨H1,ds++dds,d,R'.sub,u6 rs (hd _),e2,λv H2 H2' s1 s2 s3 fr rv=>?_⟩⟩;exact k v H2 H2' (s.trans s1) (R'.grow s3 s1 s2 fr) rv
theorem SE(hd:∀H,sj G H dds dvs):∀σ H Q,tFN G (tp (λds=>g (ds++dds)) a) σ H Q->Al (spN G g) dvs E (tFA G a) σ H Q:=λσ H Q hh=>by
 sleep 5
 obtain⟨ds,e1,e2⟩:=BG e;refine⟨F,ρ,H0,ds,ρ',R,e1,λxs H1 H1' s R' rs=>⟨H1,ds++dds,d,R'.sub,u6 rs (hd _),e2,λp ys H2 H2' s1 s2 s3 fr hn hp h0 rv=>?_⟩⟩;exact k p ys H2 H2' (s.trans s1) (R'.grow s3 s1 s2 fr) hp h0 (R'.bNone hn) (R'.apart hn) rv
end
section
variable{X:Cx}{G:Bg}
theorem SF(hd:∀H,sj G H dds dvs)(h:PE X e (Al (spF G g) dvs E (tFA G a))):PE X e (tF G (r9 (λds=>g (ds++dds)) a)):=PE.weak h (SD hd)
theorem Pe(hd:∀H,sj G H dds dvs)(h:PE X e (Al (spN G g) dvs E (tFA G a))):PE X e (tFN G (tp (λds=>g (ds++dds)) a)):=PE.weak h (SE hd)
theorem NC(h:PE X e (Al (spN G g) [] E Jl)):PE X e (tFN G (tp g sI)):=PE.weak h λσ H Q hh=>by
 sleep 5
 obtain⟨ds,e1,e2⟩:=BG e;cases e1;exact⟨H0,[],d,R.sub,tf,e2,λp ys H2 H2' s1 s2 s3 fr hn hp h0 rv=>k p ys H2 H2' s1 (R.grow s3 s1 s2 fr) hp h0 (R.bNone hn) (R.apart hn) rv⟩
def ND:aF->aT->Str->Option D
 |n::ns,d::ds,f=>if n=f then some d else ND ns ds f
 |_,_,_=>none
theorem G4:∀{ns:aF} {ds:aT} {xs:bI} {f:Str} {d:D},sj G H ds xs->ND ns ds f=some d->∃v,(ns.zip xs).lookup f=some v/\Rep G H d v
 |[],ds,xs,f,d,r,e=>by simp[ND]at e
 |n::ns,[],xs,f,d,r,e=>by simp[ND]at e
 |n::ns,d'::ds,xs,f,d,r,e=>by
  unfold sj at r;obtain⟨v,q,rfl,h1,h2⟩:=r;unfold ND at e;by_cases hn:n=f
  ·rw[aj hn]at e;cases e;subst hn;exact⟨v,by simp[c7],h1⟩
  ·rw[ao hn]at e;obtain⟨w,e1,e2⟩:=G4 h2 e;refine⟨w,?_,e2⟩;have hb:(f==n)=false:=beq_eq_false_iff_ne.mpr λz=>hn z.symm;simp only[dB,c7,hb];exact e1
def sU(ok:Nat->Bool)(f:Str):D->Option D
 |.obj c ns ds=>if ok c=true then ND ns ds f else none
 |_=>none
theorem Pf(he:PE X e (tF G ff))(hc:∀c,ok c=true->Cls X.K (G.ca c)/\yb X.K (G.ca c) f)(hb:dH e f X.env (eval e X.env)=eval e X.env:=by rfl):PE X (.Attribute e f pos) (tF G (c1 (sU ok f) ff)):=PE.weak (Vr he hb) λσ H Q hh=>by
 sleep 5
 obtain⟨x,e1,e2⟩:=EH e;cases x with
 |obj c ns ds=>
  unfold sU at e2;simp only at e2;split at e2
  ·rename_i hk;refine⟨F,ρ,H0,_,ρ',R,e1,λv H1 H1' s R' r=>?_⟩;unfold Rep at r;obtain⟨a,dx,xs,rfl,h1,h2,h3⟩:=r;obtain⟨w,l1,l2⟩:=G4 h3 e2;exact⟨a,_,dx,_,w,rfl,R'.sub _ _ h1,(hc c hk).1,(hc c hk).2,l1,k _ _ _ s R' l2⟩
  ·cases e2
 |_=>cases e2
def MOk(X:Cx)(C:Addr)(m:Str)(sp:Sp)(dvs:bI)(E:XK):Prop:=∃(k:Nat) (f:Addr) (fd:cb) (ps:aF) (ds:List ae),Cls X.K C/\Meth X.K C m f/\wx X.prog X.w X.K X.mg X.base CX0 k f fd ps sp/\uy k X.A/\Binds X.K fd ps ds/\Vals dvs ds/\Passes CX0 X E
def tS(g:Nat->Option (aT->Option D))(m:Str)(f:FE)(a:FA):FE:=λρ=>match f ρ with
 |some (.obj c ns ds,ρ1)=>match g c with
  |some h=>if ns.contains m=true then none else match a ρ1 with
   |some (es,ρ2)=>match h (.obj c ns ds::es)with
    |some d=>some (d,ρ2)
    |none=>none
   |none=>none
  |none=>none
 |_=>none
theorem Fd(h:tS g m f a ρ=some (d,ρ')):
  ∃c ns ds ρ1 hh es,f ρ=some (.obj c ns ds,ρ1)/\g c=some hh/\ns.contains m=false/\a ρ1=some (es,ρ')/\hh (.obj c ns ds::es)=some d:=by
 unfold tS at h;split at h
 ·rename_i c ns ds ρ1 e1;cases e2:g c with
  |none=>simp only[e2]at h;cases h
  |some hh=>
   simp only[e2]at h;cases e3:ns.contains m with
   |true=>simp only[e3,if_true]at h;cases h
   |false=>
    simp only[e3,eY,if_false]at h;rcases sW (f:=a) (ρ:=ρ1)with e4|⟨es,ρ2,e4⟩<;>simp only[e4]at h
    ·cases h
    ·cases e5:hh (.obj c ns ds::es)with
     |none=>simp only[e5]at h;cases h
     |some x=>simp only[e5]at h;cases h;exact⟨c,ns,ds,ρ1,hh,es,e1,e2,e3,e4,e5⟩
 ·cases h
theorem BH:∀{ns:aF} {xs:bI},ns.contains m=false->(ns.zip xs).lookup m=none
 |[],xs,h=>rfl
 |n::ns,[],h=>rfl
 |n::ns,x::xs,h=>by rw[mZ,jT]at h;simp only[dB,c7,h.1];exact BH h.2
theorem Pg(T:Addr->Sp->Prop)(hT:∀C sp,T C sp->MOk X C m sp dvs E)(he:PE X o ta)(ha:PA X (e::es) t)
  (hst:aA (e::es) X.env=(false,eval e X.env)::aA es X.env:=by rfl) (hpl:(bD pos (aA es X.env)).any (·.1)=false:=by rfl)
  (ht:eval (.Call (.Attribute o m apos) (e::es) [] pos) X.env=(do
   let ov<-eval o X.env
   standAt apos.atName
   let (f,first)<-holding [ov] (getMethod ov m pl)
   callWith pos f first (bD pos (aA (e::es) X.env)) (backToKw pos (dq [] X.env))):=by rfl):
  PE X (.Call (.Attribute o m apos) (e::es) [] pos) (λσ H Q=>ta σ H λx H1=>∃a C dx fs sp,x=.ref a/\H1 a=some (.ins C dx fs)/\T C sp/\fs.lookup m=none/\t σ H1 λvs H2=>sp (x::(vs++dvs)) H2 Q E):=by
 intro pins s σ H Q I h;refine nX (pl:=pl) (thn (he pins s σ H _ I h) λu s1 zz=>?_) ht;obtain⟨x,H1,I1,rx,a,C,dx,fs,sp,ex,ea,ht,l,q⟩:=zz;obtain⟨k,f,fd,ps,ds,c,hm,F,hr,hb,hd,hx⟩:=hT C sp ht;subst ex;obtain rfl:u=Value.ref a:=rx;refine ET I1 ea c hm l ?_;refine kH (first:=[.ref a]) (h₀:=X.base) I.ok.mod.kin hm.kp (thn (ha pos pins s1 σ H1 _ I1 q) λus s2 ⟨vs,H2,I2,r,q2⟩=>⟨I2.kIn,?_⟩) hst hpl;exact HZ (us:=.ref a::us) (vs:=.ref a::vs) F hr hb hd hx I2 (.cons rfl r) q2
theorem NF(T:Addr->Sp->Prop)(hT:∀C sp,T C sp->MOk X C m sp dvs E)(he:PE X o ta)
  (ht:eval (.Call (.Attribute o m apos) [] [] pos) X.env=(do
   let ov<-eval o X.env
   standAt apos.atName
   let (f,first)<-holding [ov] (getMethod ov m pl)
   callWith pos f first (bD pos (aA [] X.env)) (backToKw pos (dq [] X.env))):=by rfl):
  PE X (.Call (.Attribute o m apos) [] [] pos) (λσ H Q=>ta σ H λx H1=>∃a C dx fs sp,x=.ref a/\H1 a=some (.ins C dx fs)/\T C sp/\fs.lookup m=none/\sp (x::dvs) H1 Q E):=by
 intro pins s σ H Q I h;refine nX (pl:=pl) (thn (he pins s σ H _ I h) λu s1 zz=>?_) ht;obtain⟨x,H1,I1,rx,a,C,dx,fs,sp,ex,ea,ht,l,q⟩:=zz;obtain⟨k,f,fd,ps,ds,c,hm,F,hr,hb,hd,hx⟩:=hT C sp ht;subst ex;obtain rfl:u=Value.ref a:=rx;refine ET I1 ea c hm l ?_;exact ku (first:=[.ref a]) I1.kIn hm.kp (HZ (us:=[.ref a]) (vs:=[.ref a]) F hr hb hd hx I1 (.cons rfl .nil) q)
def MT(G:Bg)(g:Nat->Option (aT->Option D)):Addr->Sp->Prop:=λC sp=>∃c h,g c=some h/\C=G.ca c/\sp=spF G h
theorem SG(h:PE X (.Call (.Attribute o m apos) (e::es) [] pos) (λσ H Q=>tF G f σ H λx H1=>∃a' C dx fs sp,x=.ref a'/\H1 a'=some (.ins C dx fs)/\MT G g C sp/\fs.lookup m=none/\tFA G a σ H1 λvs H2=>sp (x::(vs++[])) H2 Q E)):
  PE X (.Call (.Attribute o m apos) (e::es) [] pos) (tF G (tS g m f a)):=PE.weak h λσ H Q hh=>by
 sleep 5
 obtain⟨c,ns,ds,ρ1,hh,es',e1,e2,e3,e4,e5⟩:=Fd e;refine⟨F,ρ,H0,_,ρ1,R,e1,λv H1 H1' s R' r=>?_⟩;have r0:=r;unfold Rep at r;obtain⟨a',dx,xs,rfl,h1,h2,h3⟩:=r;refine⟨a',_,dx,_,_,rfl,R'.sub _ _ h1,⟨c,hh,e2,rfl,rfl⟩,BH e3,F,ρ1,H1,es',ρ',R',e4,λys H2 H2' s2 R2 rs=>?_⟩;show spF G hh (V.ref a'::(ys++[])) H2' Q E;rw[bz];exact⟨H2,_,d,R2.sub,sX (Rep.mono s2 _ _ r0) rs,e5,λv H3 H3' t1 t2 t3 fr rv=>k v H3 H3' (s.trans (s2.trans t1)) (R2.grow t3 t1 t2 fr) rv⟩
theorem Ph(h:PE X (.Call (.Attribute o m apos) [] [] pos) (λσ H Q=>tF G f σ H λx H1=>∃a' C dx fs sp,x=.ref a'/\H1 a'=some (.ins C dx fs)/\MT G g C sp/\fs.lookup m=none/\sp (x::[]) H1 Q E)):
  PE X (.Call (.Attribute o m apos) [] [] pos) (tF G (tS g m f sI)):=PE.weak h λσ H Q hh=>by
 sleep 5
 obtain⟨c,ns,ds,ρ1,hh,es',e1,e2,e3,e4,e5⟩:=Fd e;cases e4;refine⟨F,ρ,H0,_,_,R,e1,λv H1 H1' s R' r=>?_⟩;have r0:=r;unfold Rep at r;obtain⟨a',dx,xs,rfl,h1,h2,h3⟩:=r;refine⟨a',_,dx,_,_,rfl,R'.sub _ _ h1,⟨c,hh,e2,rfl,rfl⟩,BH e3,?_⟩;exact⟨H1,_,d,R'.sub,sX r0 tf,e5,λv H3 H3' t1 t2 t3 fr rv=>k v H3 H3' (s.trans t1) (R'.grow t3 t1 t2 fr) rv⟩
def spI(G:Bg)(c:Nat)(g:aT->Option (aF×aT)):Sp:=λvs H Q _=>∃(p dx:Addr) (us:bI) (H0:Hp) (ds:aT) (ns:aF) (es:aT),vs=.ref p::us/\H p=some (.ins (G.ca c) dx [])/\H0 p=none/\sA H0 H/\sj G H0 ds us/\g ds=some (ns,es)/\
 ∀ys dx' H0' H',sA H0 H0'->sA H0' H'->(∀b o,H b=some o->b≠p->H' b=some o)->(∀b o,H0' b=some o->H0 b=some o\/H b=none)->H0' p=none->H' p=some (.ins (G.ca c) dx' (ns.zip ys))->ns.length=ys.length->sj G H0' es ys->Q .non H'
def tD(c:Nat)(g:aT->Option (aF×aT))(a:FA):FE:=λρ=>match a ρ with
 |some (ds,ρ')=>match g ds with
  |some (ns,es)=>some (.obj c ns es,ρ')
  |none=>none
 |none=>none
theorem SH(hd:∀H,sj G H dds dvs)(h:PE X e (Uz (G.ca c) (spI G c g) dvs E (tFA G a))):PE X e (tF G (tD c (λds=>g (ds++dds)) a)):=PE.weak h λσ H Q hh=>by
 sleep 5
 unfold tD at e;rcases sW (f:=a) (ρ:=ρ)with e1|⟨ds,ρ1,e1⟩<;>simp only[e1]at e
 ·cases e
 ·cases e2:g (ds++dds)with
  |none=>simp only[e2]at e;cases e
  |some q=>
   obtain⟨ns,es⟩:=q;simp only[e2]at e;cases e;refine⟨F,ρ,H0,ds,ρ',R,e1,λxs H1 H1' s R' rs x dx hx hdx ne=>?_⟩;have hx2:(upd H1' dx (.own x)) x=none:=by rw[su (λz=>ne z.symm)];exact hx
   have sx:sA H1' (upd (upd H1' dx (.own x)) x (.ins (G.ca c) dx [])):=(sG hdx _).trans (sG hx2 _);refine⟨x,dx,_,H1,ds++dds,ns,es,rfl,sr,R'.h0none hx,R'.sub.trans sx,u6 rs (hd _),e2,λys dx' H2 H2' t1 t2 t3 fr h0 hp hl ry=>⟨rfl,?_⟩⟩;have t4:sA H1' H2':=λb o e=>t3 b o (sx b o e) (vw e hx);have fr1:∀b o,H2 b=some o->H1 b=some o\/H1' b=none:=λb o e=>by
    rcases fr b o e with q|q
    ·exact .inl q
    ·cases z:H1' b with
     |none=>exact .inr rfl
     |some u=>rw[sx b u z]at q;cases q
   have R2:=R'.grow t4 t1 t2 fr1;have hb:F.B x=none:=R'.bNone hx;have R3:=R2.freeze hp h0 hb (λi t ei to z=>R'.apart hx i t ei to z);refine k _ _ _ (s.trans (t1.trans (sG h0 _))) R3 ?_;unfold Rep;exact⟨x,dx',ys,rfl,sr,hl,sj.mono (sG h0 _) _ _ ry⟩
def tI(c0:Nat)(i:Nat)(f:Str)(ff:FE):FS:=λρ=>match ff ρ with
 |some (d,ρ1)=>match ρ1[i]? with
  |some (.ob c ns ds)=>if c=c0 then if ns.contains f=true then none else if ds.length=ns.length then if ns.length<900 then some (.nx (ρ1.set i (.ob c (ns++[f]) (ds++[d]))))else none else none else none
  |_=>none
 |none=>none
theorem JC:∀{ns:aF} {xs:bI},ns.contains f=false->ns.length=xs.length->y3 f v (ns.zip xs)=(ns++[f]).zip (xs++[v])
 |[],[],h,l=>rfl
 |[],x::xs,h,l=>by cases l
 |n::ns,[],h,l=>by cases l
 |n::ns,x::xs,h,l=>by
  rw[mZ,jT]at h;have hn:¬n=f:=λz=>by rw[z]at h;simp at h
  have ih:=JC (f:=f) (v:=v) (ns:=ns) (xs:=xs) h.2 (by simpa using l);show y3 f v ((n,x)::ns.zip xs)=_;rw[show y3 f v ((n,x)::ns.zip xs)=(if n=f then (n,v)::ns.zip xs else (n,x)::y3 f v (ns.zip xs)) from rfl,ao hn,ih];rfl
theorem SI{st:Stmt}(h:PS X st (Zf X.K (yL i) (tF G ff) f))(hc:Cls X.K (G.ca c0)/\yb X.K (G.ca c0) f):PS X st (tFS G (tI c0 i f ff)):=PS.weak h λE σ H hh=>by
 obtain⟨F,ρ,H0,o,R,e,k,k2⟩:=hh;unfold tI at e;rcases sW (f:=ff) (ρ:=ρ)with e1|⟨d,ρ1,e1⟩<;>simp only[e1]at e
 ·cases e
 ·split at e
  ·rename_i c ns ds e2;split at e
   ·rename_i hcc;subst hcc;split at e
    ·cases e
    rename_i hnc;split at e
    ·rename_i hl;split at e
     ·rename_i h9;cases e;refine⟨F,ρ,H0,d,ρ1,R,e1,λv H1 H1' s R' r=>?_⟩;obtain⟨a,dx,xs,e3,e4,e5,e6,e7,e8⟩:=R'.sl i _ e2;refine⟨_,vz e3,a,_,dx,_,rfl,e4,hc.1,hc.2,by rw[fm];omega,?_⟩;have hnf:ns.contains f=false:=by simpa using hnc
      rw[JC hnf e7];refine k _ _ _ s (R'.mut e2 rfl e3 (λH' hH=>?_) rfl);exact⟨a,dx,xs++[v],rfl,hH,e5,e6,by rw[aC,aC,e7];rfl,u6 e8 (sX r tf)⟩
     ·cases e
    ·cases e
   ·cases e
  ·cases e
def stI(c n:Nat)(ds:aT):bg:=.ob c [] []::stE (n - 1) ds
def fnI(c np n:Nat)(f:FS):aT->Option (aF×aT):=λds=>if ds.length=np then match f (stI c n ds)with
 |some (.nx ρ)=>match (ρ:bg)[0]? with
  |some (Sl.ob c' ns es)=>if c'=c then if ns.length=es.length then some (ns,es)else none else none
  |_=>none
 |_=>none
 else none
theorem Fe(h:fnI c np n f ds=some q):ds.length=np/\∃ρ,f (stI c n ds)=some (.nx ρ)/\ρ[0]?=some (.ob c q.1 q.2)/\q.1.length=q.2.length:=by
 unfold fnI at h;split at h
 ·rename_i hl;refine⟨hl,?_⟩;split at h
  ·rename_i ρ e;split at h
   ·rename_i c' ns es e2;split at h
    ·rename_i hc;split at h
     ·rename_i h3;subst hc;cases h;exact⟨ρ,e,e2,h3⟩
     ·cases h
    ·cases h
   ·cases h
  ·cases h
 ·cases h
theorem Mh{N:aF}(hN:np+1<=N.length)(h:spI G c (fnI c np N.length f) vs H Q E):tFS G f { nx:=λ_ H'=>Q .non H',rt:=Q } (L2.start N vs) H:=by
 obtain⟨p,dx,us,H0,ds,ns,es,rfl,hp,h0,s,r,e,k⟩:=h;obtain⟨hl,ρ,e1,e2,e3⟩:=Fe e;have hul:us.length=np:=by rw[<-sq r];exact hl
 have gets:∀{i:Nat} {t:Sl},(stI c N.length ds)[i]?=some t->(i=0/\t=.ob c [] [])\/t=.un\/∃(j:Nat) (d:D),i=j+1/\ds[j]?=some d/\t=.im d:=λ{i t} e=>by
  cases i with
  |zero=>cases e;exact .inl ⟨rfl,rfl⟩
  |succ j=>
   have e':(stE (N.length - 1) ds)[j]?=some t:=e;rcases EI e' with rfl|⟨d,e1,rfl⟩
   ·exact .inr (.inl rfl)
   ·exact .inr (.inr ⟨j,d,rfl,e1,rfl⟩)
 have R:sL G ⟨H0,H,[p]⟩ (L2.start N (.ref p::us)) (stI c N.length ds) H0 H:={
  sub:=s
  g0:=sA.refl _
  keep:=λb o e _=>e
  fr:=λb o e=>.inl e
  am:=λa ha=>by
   have ea:a=p:=by simpa using ha
   subst ea;exact⟨_,hp⟩
  len:=by unfold L2.start stI stE;simp only[aC,ah,cp,aH];have:=sq r;omega
  sl:=λi t e=>by
   rcases gets e with ⟨rfl,rfl⟩|rfl|⟨j,d,rfl,e1,rfl⟩
   ·exact⟨p,dx,[],vL rfl,hp,h0,by simp,rfl,tf⟩
   ·trivial
   ·obtain⟨v,e2,e3⟩:=uF r e1;exact⟨v,vL (by simpa using e2),e3⟩
  ap:=λi j t u a hij ei ej ht hu=>by
   rcases gets ei with ⟨rfl,rfl⟩|rfl|⟨_,_,_,_,rfl⟩
   ·rcases gets ej with ⟨rfl,rfl⟩|rfl|⟨_,_,_,_,rfl⟩
    ·exact au rfl hij
    ·cases hu
    ·cases hu
   ·cases ht
   ·cases ht }
 refine⟨_,_,H0,_,R,e1,λσ' H0' H' s' R'=>?_,λ_=>rfl⟩;obtain⟨a,dx',ys,q1,q2,q3,q4,q5,q6⟩:=R'.sl 0 _ e2;have ea:a=p:=by simpa using q4
 subst ea;exact k ys dx' H0' H' s' R'.sub (λb o e n=>R'.keep b o e (by simpa using n)) R'.fr q3 q2 q5 q6
end
def Sl.L:Sl->Option aT
 |.ls ds=>some ds
 |.pm ds=>some ds
 |_=>none
def Sl.putL:Sl->aT->Sl
 |.pm _,ds=>.pm ds
 |_,ds=>.ls ds
theorem Sl.L_own{s:Sl}(h:s.L=some ds):s.own=true:=by cases s<;>first|rfl|cases h
theorem Sl.putL_L{s:Sl}:(s.putL ds).L=some ds:=by cases s<;>rfl
section
variable{G:Bg}{F:Fr}{σ:St}{ρ:bg}{H0 H:Hp}
theorem BF.lst{o:Option V}{s:Sl}{ds:aT}(h:BF G F H0 H o s)(e:s.L=some ds):∃a xs,o=some (.ref a)/\H a=some (.lst xs)/\H0 a=none/\sj G H0 ds xs:=by
 cases s with
 |ls ds'=>cases e;obtain⟨a,xs,h1,h2,h3,h4,h5⟩:=h;exact⟨a,xs,h1,h2,h3,h5⟩
 |pm ds'=>cases e;obtain⟨a,xs,h1,h2,h3,h4,h5⟩:=h;exact⟨a,xs,h1,h2,h3,h5⟩
 |_=>cases e
theorem sL.mutL(R:sL G F σ ρ H0 H)(hi:ρ[i]?=some s)(hs:s.L=some ds)(ha:(σ[i]?).join=some (.ref a))(r:sj G H0 ds' xs'):
  sL G F σ (ρ.set i (s.putL ds')) H0 (upd H a (.lst xs')):=by
 have ok:=R.sl i s hi;rw[ha]at ok;refine R.mut hi (Sl.L_own hs) ha (λH' hH=>?_) (Sl.L_own Sl.putL_L);cases s with
 |ls ds0=>obtain⟨b,xs,h1,h2,h3,h4,h5⟩:=ok;cases h1;exact⟨a,xs',rfl,hH,h3,h4,r⟩
 |pm ds0=>obtain⟨b,xs,h1,h2,h3,h4,h5⟩:=ok;cases h1;exact⟨a,xs',rfl,hH,h3,h4,r⟩
 |_=>cases hs
end
def uq(ρ:bg)(i:Nat):Option aT:=match ρ[i]? with
 |some s=>s.L
 |none=>none
theorem vM(h:uq ρ i=some ds):∃s,ρ[i]?=some s/\s.L=some ds:=by
 unfold uq at h;cases e:ρ[i]? with
 |none=>rw[e]at h;cases h
 |some s=>rw[e]at h;exact⟨s,rfl,h⟩
def putAt(ρ:bg)(i:Nat)(ds:aT):bg:=match ρ[i]? with
 |some s=>ρ.set i (s.putL ds)
 |none=>ρ
def vX(i:Nat)(f:FE):FE:=λρ=>match uq ρ i with
 |some _=>match f ρ with
  |some (d,ρ1)=>match uq ρ1 i with
   |some ds=>if ds.length<1000 then some (.non,putAt ρ1 i (ds++[d]))else none
   |none=>none
  |none=>none
 |none=>none
section
variable{X:Cx}{G:Bg}
theorem uJ(R:sL G F σ ρ H0 H)(h:uq ρ i=some ds):∃a xs,σ[i]?=some (some (.ref a))/\H a=some (.lst xs)/\sj G H0 ds xs/\
  (∀ds' xs',sj G H0 ds' xs'->sL G F σ (putAt ρ i ds') H0 (upd H a (.lst xs'))):=by
 obtain⟨s,e1,e2⟩:=vM h;obtain⟨a,xs,e3,e4,e5,e6⟩:=(R.sl i s e1).lst e2;refine⟨a,xs,vz e3,e4,e6,λds' xs' r=>?_⟩;unfold putAt;rw[e1];exact R.mutL e1 e2 e3 r
theorem NG(h:PE X e (tBM G.K "list" Ik (yL i) (tFA G (rV f sI)))):PE X e (tF G (vX i f)):=PE.weak h λσ H Q hh=>by
 sleep 5
 unfold vX at e;cases e0:uq ρ i with
 |none=>simp only[e0]at e;cases e
 |some ds0=>
  simp only[e0]at e;rcases sW (f:=f) (ρ:=ρ)with e1|⟨x,ρ1,e1⟩<;>simp only[e1]at e
  ·cases e
  ·cases e2:uq ρ1 i with
   |none=>simp only[e2]at e;cases e
   |some ds=>
    simp only[e2]at e;split at e
    ·rename_i hl;cases e;obtain⟨a,xs,s1,s2,s3,_⟩:=uJ R e0;refine⟨.ref a,s1,.inl ⟨rfl,xs,SqL.of s2⟩,F,ρ,H0,[x],ρ1,R,by unfold rV;rw[e1];rfl,λys H1 H1' s R' rs=>?_⟩
     sleep 1
     obtain⟨a',xs',t1,t2,t3,t4⟩:=uJ R' e2;rw[s1]at t1;cases t1;exact⟨a,xs',v,rfl,rfl,t2,by rw[<-sq t3];exact A6 (by omega),k _ _ _ s (t4 _ _ (u6 t3 (sX rv tf))) B9⟩
    ·cases e
def Mi(i:Nat):FE:=λρ=>match uq ρ i with
 |some (d::ds)=>some (d,putAt ρ i ds)
 |_=>none
theorem SJ(h:PE X e (tBM G.K "list" KZ (yL i) (EU (tC (.int 0)) Jl))):PE X e (tF G (Mi i)):=PE.weak h λσ H Q hh=>by
 sleep 5
 unfold Mi at e;split at e
 ·rename_i d' ds e0;cases e;obtain⟨a,xs,s1,s2,s3,s4⟩:=uJ R e0;unfold sj at s3;obtain⟨v,r,rfl,r1,r2⟩:=s3;refine⟨.ref a,s1,.inl ⟨rfl,_,SqL.of s2⟩,a,v::r,0,0,v,rfl,rfl,s2,by decide,by decide,?_,rfl,?_⟩
  ·unfold seqIndex?;simp
  ·exact k _ _ _ (sA.refl _) (s4 _ _ r2) r1
 ·cases e
theorem Cb(r:sj G H0 ds xs)(h:atI ds i=some d):∃v,atI xs i=some v/\Rep G H0 d v:=by
 unfold atI at h ⊢;rw[<-sq r];cases e:ixN ds.length i with
 |none=>rw[e]at h;cases h
 |some j=>rw[e]at h;exact uF r h
def Dg(i:Nat)(f:FE):FE:=λρ=>match uq ρ i with
 |some _=>match f ρ with
  |some (.int j,ρ1)=>match uq ρ1 i with
   |some ds=>match atI ds j with
    |some d=>some (d,ρ1)
    |none=>none
   |none=>none
  |_=>none
 |none=>none
theorem V3(h:PE X e (tOp (RU G.K) (yL i) (tF G f))):PE X e (tF G (Dg i f)):=PE.weak h λσ H Q hh=>by
 sleep 5
 unfold Dg at e;cases e9:uq ρ i with
 |none=>simp only[e9]at e;cases e
 |some ds9=>
  simp only[e9]at e;obtain⟨a9,xs9,ev,_⟩:=uJ R e9;split at e
  ·rename_i j ρ1 e1;cases e0:uq ρ1 i with
   |none=>simp only[e0]at e;cases e
   |some ds=>
    simp only[e0]at e;cases e2:atI ds j with
    |none=>simp only[e2]at e;cases e
    |some x=>simp only[e2]at e;cases e;refine⟨.ref a9,ev,F,ρ,H0,_,_,R,e1,λu H1 H1' s R' r=>?_⟩;unfold Rep at r;subst r;obtain⟨a,xs,s1,s2,s3,s4⟩:=uJ R' e0;rw[ev]at s1;cases s1;obtain⟨w,w1,w2⟩:=Cb s3 e2;exact⟨_,xs,j,w,rfl,rfl,SqL.of s2,w1,k _ _ _ s R' w2⟩
  ·cases e
def cFz(i:Nat):FE:=λρ=>match ρ[i]? with
 |some (.ls ds)=>some (.lst ds,ρ.set i (.im (.lst ds)))
 |some (.dk ks ds)=>some (.dic ks ds,ρ.set i (.im (.dic ks ds)))
 |some (.im d)=>some (d,ρ)
 |_=>none
theorem sL.toIm(R:sL G F σ ρ H0 H)(hi:ρ[i]?=some s)(hs:(σ[i]?).join=some (.ref p))(so:s.own=true)(hp:H p=some o)(h0:H0 p=none)(hb:F.B p=none)(r:Rep G (upd H0 p o) d (.ref p)):
  sL G F σ (ρ.set i (.im d)) (upd H0 p o) H where
 sub:=λb u e=>by
  by_cases hb:b=p
  ·subst hb;rw[sr]at e;cases e;exact hp
  ·rw[su hb]at e;exact R.sub _ _ e
 g0:=R.g0.trans (sG h0 o)
 keep:=R.keep
 fr:=λb u e=>by
  by_cases hb':b=p
  ·subst hb';exact .inr hb
  ·rw[su hb']at e;exact R.fr _ _ e
 am:=R.am
 len:=by rw[eC];exact R.len
 sl:=λj t e=>by
  rw[bX]at e;by_cases h:i=j
  ·subst h;rw[aj rfl]at e;split at e
   ·cases e;exact⟨_,hs,r⟩
   ·cases e
  ·rw[ao h]at e;refine(R.sl j t e).grow (sG h0 o) (λa u _ _ q=>q) λa u z to q q0=>?_;rw[su (λy=>by subst y;exact R.ap j i t s a (λy=>h y.symm) e hi to so z hs)];exact q0
 ap:=λj k t u b hjk ej ek tj tk vj vk=>by
  have gen:∀{m:Nat} {x:Sl},(ρ.set i (.im d))[m]?=some x->x.own=true->ρ[m]?=some x:=λ{m x} e xo=>by
   rw[bX]at e;by_cases h:i=m
   ·subst h;rw[aj rfl]at e;split at e
    ·cases e;cases xo
    ·cases e
   ·rw[ao h]at e;exact e
  exact R.ap j k t u b hjk (gen ej tj) (gen ek tk) tj tk vj vk
theorem sL.toImD(R:sL G F σ ρ H0 H)(hi:ρ[i]?=some s)(hs:(σ[i]?).join=some (.ref p))(so:s.own=true)(h0:H0 p=none)(hb:F.B p=none)(r:Rep G (upd H0 p o) d (.ref p)):
  sL G F σ (ρ.set i (.im d)) (upd H0 p o) (upd H p o) where
 sub:=λb u e=>by
  by_cases hb:b=p
  ·subst hb;rw[sr]at e ⊢;exact e
  ·rw[su hb]at e ⊢;exact R.sub _ _ e
 g0:=R.g0.trans (sG h0 o)
 keep:=λb u e n=>by rw[su (λz=>by subst z;rw[hb]at e;cases e)];exact R.keep b u e n
 fr:=λb u e=>by
  by_cases hb':b=p
  ·subst hb';exact .inr hb
  ·rw[su hb']at e;exact R.fr _ _ e
 am:=λb hm=>by
  by_cases hb':b=p
  ·subst hb';exact⟨o,sr⟩
  ·rw[su hb'];exact R.am b hm
 len:=by rw[eC];exact R.len
 sl:=λj t e=>by
  rw[bX]at e;by_cases h:i=j
  ·subst h;rw[aj rfl]at e;split at e
   ·cases e;exact⟨_,hs,r⟩
   ·cases e
  ·rw[ao h]at e;refine(R.sl j t e).grow (sG h0 o) (λa u z to q=>?_) λa u z to q q0=>?_
   ·rw[su (λy=>by subst y;exact R.ap j i t s a (λy=>h y.symm) e hi to so z hs)];exact q
   ·rw[su (λy=>by subst y;exact R.ap j i t s a (λy=>h y.symm) e hi to so z hs)];exact q0
 ap:=λj k t u b hjk ej ek tj tk vj vk=>by
  have gen:∀{m:Nat} {x:Sl},(ρ.set i (.im d))[m]?=some x->x.own=true->ρ[m]?=some x:=λ{m x} e xo=>by
   rw[bX]at e;by_cases h:i=m
   ·subst h;rw[aj rfl]at e;split at e
    ·cases e;cases xo
    ·cases e
   ·rw[ao h]at e;exact e
  exact R.ap j k t u b hjk (gen ej tj) (gen ek tk) tj tk vj vk
theorem ZC(h:PE X e (yL i)):PE X e (tF G (cFz i)):=PE.weak (PE.ghost h) λσ H Q hh=>by
 sleep 5
 unfold cFz at e;split at e
 ·rename_i ds e0;cases e;obtain⟨a,xs,h1,h2,h3,h4,h5⟩:=R.sl i _ e0;have rr:Rep G (upd H0 a (.lst xs)) (.lst ds) (.ref a):=yB sr (sj.mono (sG h3 _) _ _ h5);exact⟨_,vz h1,.inl (k _ _ _ (sG h3 _) (R.toIm e0 h1 rfl h2 h3 h4 rr) rr)⟩
 ·rename_i ks ds e0;cases e;obtain⟨a,xs,h1,h2,h3,h4,h5,h6⟩:=R.sl i _ e0;refine⟨_,vz h1,.inr ⟨a,_,h2,λo=>?_⟩⟩;have rr:Rep G (upd H0 a (.frz o (.dK (ks.zip xs)))) (.dic ks ds) (.ref a):=by unfold Rep;exact⟨a,o,xs,rfl,sr,h5,sj.mono (sG h3 _) _ _ h6⟩
  exact k _ _ _ (sG h3 _) (R.toImD e0 h1 rfl h3 h4 rr) rr
 ·rename_i d' e0;cases e;obtain⟨v,e2,e3⟩:=R.sl i _ e0;exact⟨v,vz e2,.inl (k _ _ _ (sA.refl _) R e3)⟩
 ·cases e
def K8(i:Nat):FA:=λρ=>match ρ[i]? with
 |some (.ls ds)=>some (ds,ρ.set i .un)
 |_=>none
theorem SK(h:PE X e (yL i)):PE X e (tFN G (K8 i)):=PE.weak h λσ H Q hh=>by
 sleep 5
 unfold K8 at e;split at e
 ·rename_i ds e0;cases e;obtain⟨a,xs,h1,h2,h3,h4,h5⟩:=R.sl i _ e0;have gen:∀{m:Nat} {x:Sl},(ρ.set i .un)[m]?=some x->x.own=true->m≠i/\ρ[m]?=some x:=λ{m x} e xo=>by
   rw[bX]at e;by_cases h:i=m
   ·subst h;rw[aj rfl]at e;split at e
    ·cases e;cases xo
    ·cases e
   ·rw[ao h]at e;exact⟨λz=>h z.symm,e⟩
  have R':sL G F σ (ρ.set i .un) H0 H:={
   sub:=R.sub,g0:=R.g0,keep:=R.keep,fr:=R.fr,am:=R.am
   len:=by rw[eC];exact R.len
   sl:=λj t e=>by
    rw[bX]at e;by_cases h:i=j
    ·subst h;rw[aj rfl]at e;split at e
     ·cases e;trivial
     ·cases e
    ·rw[ao h]at e;exact R.sl j t e
   ap:=λj k t u b hjk ej ek tj tk vj vk=>R.ap j k t u b hjk (gen ej tj).2 (gen ek tk).2 tj tk vj vk }
  refine⟨_,vz h1,k a xs _ _ (sA.refl _) R' h2 h3 h4 (λj t ej to z=>?_) h5⟩;obtain⟨nj,ej'⟩:=gen ej to;exact R.ap j i t _ a nj ej' e0 to rfl z h1
 ·cases e
end
def spM(G:Bg)(g:aT->aT->Option (D×aT)):Sp:=λvs H Q _=>∃(a:Addr) (us xs:bI) (H0:Hp) (es ds:aT) (d:D) (es':aT),vs=.ref a::us/\H a=some (.lst xs)/\H0 a=none/\sA H0 H/\sj G H0 es xs/\sj G H0 ds us/\g es ds=some (d,es')/\
 ∀v xs' H0' H',sA H0 H0'->sA H0' H'->(∀b o,H b=some o->b≠a->H' b=some o)->(∀b o,H0' b=some o->H0 b=some o\/H b=none)->H0' a=none->H' a=some (.lst xs')->sj G H0' es' xs'->Rep G H0' d v->Q v H'
def stM(n:Nat)(es ds:aT):bg:=.pm es::stE (n - 1) ds
def DM(ρ:bg):Option aT:=match ρ with
 |.pm es::_=>some es
 |_=>none
def fnM(np n:Nat)(f:FS):aT->aT->Option (D×aT):=λes ds=>if ds.length=np then match f (stM n es ds)with
 |some (.rt d ρ)=>match DM ρ with
  |some es'=>some (d,es')
  |none=>none
 |some (.rn xs ρ)=>match DM ρ with
  |some es'=>some (.lst xs,es')
  |none=>none
 |_=>none
 else none
theorem Fg(h:DM ρ=some es):ρ[0]?=some (.pm es):=by
 unfold DM at h;split at h
 ·cases h;rfl
 ·cases h
theorem JD(h:fnM np n f es ds=some (d,es')):ds.length=np/\((∃ρ,f (stM n es ds)=some (.rt d ρ)/\ρ[0]?=some (.pm es'))\/∃xs ρ,f (stM n es ds)=some (.rn xs ρ)/\ρ[0]?=some (.pm es')/\d=.lst xs):=by
 unfold fnM at h;split at h
 ·rename_i hl;refine⟨hl,?_⟩;split at h
  ·rename_i x ρ e;cases e2:DM ρ with
   |none=>simp only[e2]at h;cases h
   |some q=>simp only[e2]at h;cases h;exact .inl ⟨ρ,e,Fg e2⟩
  ·rename_i x ρ e;cases e2:DM ρ with
   |none=>simp only[e2]at h;cases h
   |some q=>simp only[e2]at h;cases h;exact .inr ⟨x,ρ,e,Fg e2,rfl⟩
  ·cases h
 ·cases h
section
variable{X:Cx}{G:Bg}
theorem SL{N:aF}(hN:np+1<=N.length)(h:spM G (fnM np N.length f) vs H Q E):tFS G f { nx:=λ_ H'=>Q .non H',rt:=Q } (L2.start N vs) H:=by
 obtain⟨a,us,xs,H0,es,ds,d,es',rfl,ha,h0,s,r1,r,e,k⟩:=h;obtain⟨hl,e1⟩:=JD e;have hul:us.length=np:=by rw[<-sq r];exact hl
 have gets:∀{i:Nat} {t:Sl},(stM N.length es ds)[i]?=some t->(i=0/\t=.pm es)\/t=.un\/∃(j:Nat) (d:D),i=j+1/\ds[j]?=some d/\t=.im d:=λ{i t} e=>by
  cases i with
  |zero=>cases e;exact .inl ⟨rfl,rfl⟩
  |succ j=>
   have e':(stE (N.length - 1) ds)[j]?=some t:=e;rcases EI e' with rfl|⟨d,e1,rfl⟩
   ·exact .inr (.inl rfl)
   ·exact .inr (.inr ⟨j,d,rfl,e1,rfl⟩)
 have R:sL G ⟨H0,H,[a]⟩ (L2.start N (.ref a::us)) (stM N.length es ds) H0 H:={
  sub:=s
  g0:=sA.refl _
  keep:=λb o e _=>e
  fr:=λb o e=>.inl e
  am:=λb hb=>by
   have eb:b=a:=by simpa using hb
   subst eb;exact⟨_,ha⟩
  len:=by unfold L2.start stM stE;simp only[aC,ah,cp,aH];have:=sq r;omega
  sl:=λi t e=>by
   rcases gets e with ⟨rfl,rfl⟩|rfl|⟨j,d,rfl,e1,rfl⟩
   ·exact⟨a,xs,vL rfl,ha,h0,by simp,r1⟩
   ·trivial
   ·obtain⟨v,e2,e3⟩:=uF r e1;exact⟨v,vL (by simpa using e2),e3⟩
  ap:=λi j t u b hij ei ej ht hu=>by
   rcases gets ei with ⟨rfl,rfl⟩|rfl|⟨_,_,_,_,rfl⟩
   ·rcases gets ej with ⟨rfl,rfl⟩|rfl|⟨_,_,_,_,rfl⟩
    ·exact au rfl hij
    ·cases hu
    ·cases hu
   ·cases ht
   ·cases ht }
 have fin:∀{v:V} {σ':St} {ρ':bg} {H0' H':Hp},sA H0 H0'->sL G ⟨H0,H,[a]⟩ σ' ρ' H0' H'->ρ'[0]?=some (.pm es')->Rep G H0' d v->Q v H':=λs' R' e2 rv=>by
  obtain⟨a',ys,q1,q2,q3,q4,q5⟩:=R'.sl 0 _ e2;have ea:a'=a:=by simpa using q4
  subst ea;exact k _ ys _ _ s' R'.sub (λb o e n=>R'.keep b o e (by simpa using n)) R'.fr q3 q2 q5 rv
 rcases e1 with ⟨ρ,e1,e2⟩|⟨zs,ρ,e1,e2,rfl⟩
 ·exact⟨_,_,H0,_,R,e1,λv σ' H0' H' s' R' rv=>fin s' R' e2 rv,λ_=>rfl⟩
 ·refine⟨_,_,H0,_,R,e1,λp ys σ' H0' H' s' R' hp hp0 hb ap rs=>?_,λ_=>rfl⟩;exact fin (s'.trans (sG hp0 _)) (R'.freeze hp hp0 hb ap) e2 (yB sr (sj.mono (sG hp0 _) _ _ rs))
theorem Pi(hg:∀es ds d,g es ds=some d->ds.length=np):∀vs H Q E,spM G g vs H Q E->vs.length=np+1:=λvs H Q E h=>by obtain⟨a,us,xs,H0,es,ds,d,es',rfl,_,_,_,_,r,e,_⟩:=h;rw[aH,<- sq r,hg _ _ _ e]
theorem SM:∀es ds d,fnM np n f es ds=some d->ds.length=np:=λ_ _ d h=>(JD (d:=d.1) (es':=d.2) h).1
theorem sL.call1(R:sL G F σ ρ H0 H)(hi:ρ[i]?=some s)(hs:s.L=some es)(hb:(σ[i]?).join=some (.ref b))
  (s1:sA H0 H0') (s2:sA H0' H') (s3:∀c o,H c=some o->c≠b->H' c=some o) (fr:∀c o,H0' c=some o->H0 c=some o\/H c=none) (h0:H0' b=none) (hz:H' b=some (.lst zs)) (r:sj G H0' es' zs):
  sL G F σ (ρ.set i (s.putL es')) H0' H':=by
 have so:=Sl.L_own hs;obtain⟨b',u,e1,e2,e3,e4⟩:=(R.sl i s hi).at so;rw[hb]at e1;cases e1;exact {
  sub:=s2
  g0:=R.g0.trans s1
  keep:=λc o e n=>by
   refine s3 c o (R.keep c o e n) λz=>?_;subst z;rcases e4 with q|q
   ·rw[q]at e;cases e
   ·exact n q
  fr:=λc o e=>by
   rcases fr c o e with q|q
   ·exact R.fr c o q
   ·exact .inr (R.bNone q)
  am:=λc hc=>by
   by_cases z:c=b
   ·subst z;exact⟨_,hz⟩
   ·obtain⟨o,q⟩:=R.am c hc;exact⟨o,s3 c o q z⟩
  len:=by rw[eC];exact R.len
  sl:=λj t e=>by
   rw[bX]at e;by_cases h:i=j
   ·subst h;rw[aj rfl]at e;split at e
    ·cases e;rw[hb];have ok:=R.sl i s hi;rw[hb]at ok;cases s with
     |ls ds0=>obtain⟨c,xs,h1,h2,h3,h4,h5⟩:=ok;cases h1;exact⟨b,zs,rfl,hz,h0,h4,r⟩
     |pm ds0=>obtain⟨c,xs,h1,h2,h3,h4,h5⟩:=ok;cases h1;exact⟨b,zs,rfl,hz,h0,h4,r⟩
     |_=>cases hs
    ·cases e
   ·rw[ao h]at e;refine(R.sl j t e).grow s1 (λc w z to q=>s3 c w q λy=>?_) λc w z to q q0=>?_
    ·subst y;exact R.ap j i t s c (λy=>h y.symm) e hi to so z hb
    ·cases y:H0' c with
     |none=>rfl
     |some o=>
      rcases fr c o y with x|x
      ·rw[x]at q0;cases q0
      ·rw[x]at q;cases q
  ap:=λj k t u c hjk ej ek tj tk vj vk=>by
   have gen:∀{m:Nat} {x:Sl},(ρ.set i (s.putL es'))[m]?=some x->∃y,ρ[m]?=some y/\(x.own=true->y.own=true):=λ{m x} e=>by
    rw[bX]at e;by_cases h:i=m
    ·subst h;exact⟨s,hi,λ_=>so⟩
    ·rw[ao h]at e;exact⟨x,e,λq=>q⟩
   obtain⟨y,ey,oy⟩:=gen ej;obtain⟨z,ez,oz⟩:=gen ek;exact R.ap j k y z c hjk ey ez (oy tj) (oz tk) vj vk }
def tu(g:aT->aT->Option (D×aT))(i:Nat)(a:FA):FE:=λρ=>match uq ρ i with
 |some _=>match a ρ with
  |some (ds,ρ1)=>match uq ρ1 i with
   |some es=>match g es ds with
    |some (d,es')=>some (d,putAt ρ1 i es')
    |none=>none
   |none=>none
  |none=>none
 |none=>none
theorem V4(h:PE X e (Al (spM G g) [] E (EU (yL i) (tFA G a)))):PE X e (tF G (tu g i a)):=PE.weak h λσ H Q hh=>by
 sleep 5
 unfold tu at e;cases e0:uq ρ i with
 |none=>simp only[e0]at e;cases e
 |some ds0=>
  simp only[e0]at e;rcases sW (f:=a) (ρ:=ρ)with e1|⟨ds,ρ1,e1⟩<;>simp only[e1]at e
  ·cases e
  ·cases e2:uq ρ1 i with
   |none=>simp only[e2]at e;cases e
   |some es=>
    simp only[e2]at e;cases e3:g es ds with
    |none=>simp only[e3]at e;cases e
    |some q=>
     obtain⟨d1,es'⟩:=q;simp only[e3]at e;cases e;obtain⟨b,xs,s1,s2,s3,_⟩:=uJ R e0;refine⟨.ref b,s1,F,ρ,H0,ds,ρ1,R,e1,λys H1 H1' s R' rs=>?_⟩;obtain⟨s,es0,es1⟩:=vM e2;obtain⟨b',xs',t1,t2,t3,t4⟩:=(R'.sl i s es0).lst es1;rw[vz t1]at s1;cases s1;refine⟨b,ys,xs',H1,es,ds,d,es',?_,t2,t3,R'.sub,t4,rs,e3,λv zs H2 H2' u1 u2 u3 fr w0 w1 w2 w3=>?_⟩
     ·show V.ref b::ys++[]=_;rw[bz]
     ·refine k _ _ _ (sA.trans ‹sA H0 H1› u1) ?_ w3;unfold putAt;rw[es0];exact R'.call1 es0 es1 t1 u1 u2 u3 fr w0 w1 w2
def Walk(G:Bg)(J:It)(ds:aT)(H0:Hp):Prop:=∀(i:Nat) (H1 H1':Hp),sA H0 H1->sA H1 H1'->
 (∀d,ds[i]?=some d->J.go i H1'/\∀x H2',J.yld i H1' x H2'->∃H2,sA H1 H2/\sA H2 H2'/\sA H1' H2'/\(∀b o,H2 b=some o->H1 b=some o\/H1' b=none)/\Rep G H2 d x)/\(i=ds.length->J.stop i H1')
def tFI(G:Bg)(f:FA):TI:=λσ H R=>∃F ρ H0 ds ρ',sL G F σ ρ H0 H/\f ρ=some (ds,ρ')/\∀J H0' H',sA H0 H0'->sL G F σ ρ' H0' H'->Walk G J ds H0'->R J H'
theorem PI.weak(h:PI X tg e t)(w:∀σ H R,t' σ H R->t σ H R):PI X tg e t':=λpins s σ H R I hq=>h pins s σ H R I (w _ _ _ hq)
theorem Fh(h:SqL G.K H0 a xs)(r:sj G H0 ds xs):Walk G (Itl G.K a) ds H0:=λi H1 H1' s s'=>by have h1:SqL G.K H1' a xs:=(s.trans s').seq h;refine⟨λd e=>?_,λhl=>⟨xs,h1,by rw[<-sq r,hl];exact aI _⟩⟩;obtain⟨v,e1,e2⟩:=uF r e;refine⟨⟨xs,v,h1,e1⟩,λx H2' y=>?_⟩;obtain⟨e3,e4⟩:=y;have e5:=e4 xs h1;rw[e1]at e5;cases e5;subst e3;exact⟨H1,sA.refl _,s',sA.refl _,λb o e=>.inl e,Rep.mono s _ _ e2⟩
theorem Pj(h:SqT G.K H0 a xs)(r:sj G H0 ds xs):Walk G (Itt G.K a) ds H0:=λi H1 H1' s s'=>by have h1:SqT G.K H1' a xs:=SqT.mono (s.trans s') h;refine⟨λd e=>?_,λhl=>⟨xs,h1,by rw[<-sq r,hl];exact aI _⟩⟩;obtain⟨v,e1,e2⟩:=uF r e;refine⟨⟨xs,v,h1,e1⟩,λx H2' y=>?_⟩;obtain⟨e3,e4⟩:=y;have e5:=e4 xs h1;rw[e1]at e5;cases e5;subst e3;exact⟨H1,sA.refl _,s',sA.refl _,λb o e=>.inl e,Rep.mono s _ _ e2⟩
def iL(f:FE):FA:=λρ=>match f ρ with
 |some (.lst ds,ρ')=>some (ds,ρ')
 |some (.fzl ds,ρ')=>some (ds,ρ')
 |_=>none
def iT(f:FE):FA:=λρ=>match f ρ with
 |some (.tup ds,ρ')=>some (ds,ρ')
 |_=>none
theorem JE(h:PI X tg e (OA G.K (tF G f))):PI X tg e (tFI G (iL f)):=PI.weak h λσ H R hh=>by
 obtain⟨F,ρ,H0,ds,ρ',R,e,k⟩:=hh;unfold iL at e;split at e
 ·rename_i ds' ρ1 e1
  sleep 2
  obtain⟨a,xs,rfl,r1,r2⟩:=r;exact⟨a,rfl,⟨xs,R'.sub.seq (SqL.of r1)⟩,k _ _ _ s R' (Fh (SqL.of r1) r2)⟩
 ·rename_i ds' ρ1 e1
  sleep 2
  obtain⟨a,xs,rfl,r1,r2⟩:=r;exact⟨a,rfl,⟨xs,R'.sub.seq r1⟩,k _ _ _ s R' (Fh r1 r2)⟩
 ·cases e
theorem SN(h:PI X tg e (Vg G.K (tF G f))):PI X tg e (tFI G (iT f)):=PI.weak h λσ H R hh=>by
 obtain⟨F,ρ,H0,ds,ρ',R,e,k⟩:=hh;unfold iT at e;split at e
 ·rename_i ds' ρ1 e1
  sleep 2
  obtain⟨a,xs,rfl,r1,r2⟩:=r;exact⟨a,rfl,⟨xs,SqT.mono R'.sub r1⟩,k _ _ _ s R' (Pj r1 r2)⟩
 ·cases e
def Fi(lo:Int)(n:Nat):aT:=(bH n).map λ(i:Nat)=>D.int (lo+(i:Int))
theorem Pk{lo:Int}:Walk G (Itr lo n) (Fi lo n) H0:=λi H1 H1' s s'=>by
 refine⟨λd e=>?_,λhl=>by show n<=i;rw[hl];simp[Fi]⟩;unfold Fi at e;rw[bB]at e;by_cases hi:i<n
 ·rw[mQ hi]at e;cases e;refine⟨hi,λx H2' y=>?_⟩;obtain⟨e3,rfl⟩:=y;subst e3;exact⟨H1,sA.refl _,s',sA.refl _,λb o e=>.inl e,uV _⟩
 ·rw[gE (by simpa using hi)]at e;cases e
def iR1(f:FE):FA:=λρ=>match f ρ with
 |some (.int n,ρ')=>if -1000000<=n/\n<=1000000 then some (Fi 0 n.toNat,ρ')else none
 |_=>none
theorem K9(h:PI X tg e (Uy (tFA G (rV f sI)))):PI X tg e (tFI G (iR1 f)):=PI.weak h λσ H R hh=>by
 obtain⟨F,ρ,H0,ds,ρ',R,e,k⟩:=hh;unfold iR1 at e;split at e
 ·rename_i n ρ1 e1;split at e
  ·rename_i hn;cases e;refine⟨F,ρ,H0,[.int n],_,R,by unfold rV;rw[e1];rfl,λxs H1 H1' s R' rs=>?_⟩;unfold sj at rs;obtain⟨v,r0,rfl,rv,rn⟩:=rs;unfold sj at rn;unfold Rep at rv;subst rn rv;exact⟨n,rfl,by omega,by omega,k _ _ _ s R' Pk⟩
  ·cases e
 ·cases e
def forL(g:FG)(b:FS):aT->FS
 |[],ρ=>some (.nx ρ)
 |d::r,ρ=>match g d ρ with
  |none=>none
  |some ρ1=>match b ρ1 with
   |some (.nx ρ2)=>forL g b r ρ2
   |some (.ct ρ2)=>forL g b r ρ2
   |some (.bk ρ2)=>some (.nx ρ2)
   |some (.rt d ρ2)=>some (.rt d ρ2)
   |some (.rn d ρ2)=>some (.rn d ρ2)
   |none=>none
def vY(s:FA)(g:FG)(b:FS):FS:=λρ=>match s ρ with
 |some (ds,ρ')=>forL g b ds ρ'
 |none=>none
theorem SO{st:Stmt}(h:PS X st (Vi (tFI G s) (tFG G n g) (tFS G b))):PS X st (tFS G (vY s g b)):=PS.weak h λE σ H hh=>by
 obtain⟨F,ρ,H0,o,R,e,k,k2⟩:=hh;unfold vY at e;rcases sW (f:=s) (ρ:=ρ)with e1|⟨ds,ρ1,e1⟩<;>simp only[e1]at e
 ·cases e
 ·refine⟨F,ρ,H0,ds,ρ1,R,e1,λJ H1 H1' s1 R1 wk=>?_⟩;refine⟨λi m σ H=>m=ds.length - i/\i<=ds.length/\∃ρi Hi,sA H1 Hi/\sL G F σ ρi Hi H/\forL g b (ds.drop i) ρi=some o,⟨_,rfl,cu _,ρ1,H1,sA.refl _,R1,e⟩,?_⟩;rintro i m σi Hi' ⟨rfl,hi,ρi,Hi,si,Ri,ei⟩;by_cases hlt:i<ds.length
  ·have ed:ds.drop i=ds[i]::ds.drop (i+1):=iG hlt;rw[ed]at ei;unfold forL at ei;obtain⟨go,yl⟩:=(wk i Hi Hi' si Ri.sub).1 ds[i] (aP hlt);refine .inr ⟨go,λσ' H'=>∃ρi Hi,sA H1 Hi/\sL G F σ' ρi Hi H'/\forL g b (ds.drop (i+1)) ρi=some o,λσ' H' q=>⟨ds.length - (i+1),by omega,rfl,hlt,q⟩,λx H' y=>?_⟩;obtain⟨H2,t1,t2,t3,t4,t5⟩:=yl x H' y;have R2:=Ri.grow t3 t1 t2 t4;cases e2:g ds[i] ρi with
   |none=>simp only[e2]at ei;cases ei
   |some ρ2=>
    simp only[e2]at ei;refine⟨F,ρi,H2,_,ρ2,R2,t5,e2,λσ3 _ R3=>?_⟩;have kk:=k.back (s1.trans (si.trans t1));cases e3:b ρ2 with
    |none=>simp only[e3]at ei;cases ei
    |some q=>
     refine⟨F,ρ2,H2,q,R3,e3,?_,λ_=>rfl⟩;cases q with
     |nx ρ3=>simp only[e3]at ei;exact λσ' H0' H' s' R'=>⟨ρ3,H0',si.trans (t1.trans s'),R',ei⟩
     |ct ρ3=>simp only[e3]at ei;exact λσ' H0' H' s' R'=>⟨ρ3,H0',si.trans (t1.trans s'),R',ei⟩
     |bk ρ3=>simp only[e3]at ei;cases ei;exact kk
     |rt d ρ3=>simp only[e3]at ei;cases ei;exact kk
     |rn d ρ3=>simp only[e3]at ei;cases ei;exact kk
  ·have ez:ds.drop i=[]:=mB (by omega);rw[ez]at ei;unfold forL at ei;cases ei;exact .inl ⟨(wk i Hi Hi' si Ri.sub).2 (by omega),k _ _ _ (s1.trans si) Ri⟩
def whL(c:FT)(b:FS):Nat->FS
 |0,_=>none
 |n+1,ρ=>match c ρ with
  |some (false,ρ1)=>some (.nx ρ1)
  |some (true,ρ1)=>match b ρ1 with
   |some (.nx ρ2)=>whL c b n ρ2
   |some (.ct ρ2)=>whL c b n ρ2
   |some (.bk ρ2)=>some (.nx ρ2)
   |some (.rt d ρ2)=>some (.rt d ρ2)
   |some (.rn d ρ2)=>some (.rn d ρ2)
   |none=>none
  |none=>none
theorem NH{st:Stmt}(n:Nat)(h:PS X st (Oy (tFT G c) (tFS G b))):PS X st (tFS G (whL c b n)):=PS.weak h λE σ H hh=>by
 obtain⟨F,ρ,H0,o,R,e,k,k2⟩:=hh;refine⟨λm σ H=>∃ρi Hi,sA H0 Hi/\sL G F σ ρi Hi H/\whL c b m ρi=some o,⟨n,ρ,H0,sA.refl _,R,e⟩,?_⟩;rintro m σi Hi' ⟨ρi,Hi,si,Ri,ei⟩;cases m with
 |zero=>cases ei
 |succ m=>
  unfold whL at ei;rcases sW (f:=c) (ρ:=ρi)with e1|⟨t,ρ1,e1⟩
  ·simp only[e1]at ei;cases ei
  ·refine⟨F,ρi,Hi,t,ρ1,Ri,e1,λH1 H1' s1 R1=>?_⟩;cases t with
   |false=>simp only[e1]at ei;cases ei;exact Io (k _ _ _ (si.trans s1) R1)
   |true=>
    simp only[e1]at ei;refine Ip ⟨λσ' H'=>∃ρi Hi,sA H0 Hi/\sL G F σ' ρi Hi H'/\whL c b m ρi=some o,λσ' H' q=>⟨m,eh m,q⟩,?_⟩;have kk:=k.back (si.trans s1);cases e3:b ρ1 with
    |none=>simp only[e3]at ei;cases ei
    |some q=>
     refine⟨F,ρ1,H1,q,R1,e3,?_,λ_=>rfl⟩;cases q with
     |nx ρ3=>simp only[e3]at ei;exact λσ' H0' H' s' R'=>⟨ρ3,H0',si.trans (s1.trans s'),R',ei⟩
     |ct ρ3=>simp only[e3]at ei;exact λσ' H0' H' s' R'=>⟨ρ3,H0',si.trans (s1.trans s'),R',ei⟩
     |bk ρ3=>simp only[e3]at ei;cases ei;exact kk
     |rt d ρ3=>simp only[e3]at ei;cases ei;exact kk
     |rn d ρ3=>simp only[e3]at ei;cases ei;exact kk
end
def Sl.cap:Sl->Sl
 |.im d=>.im d
 |.ls ds=>.pm ds
 |.pm ds=>.pm ds
 |_=>.un
def Bk(k:Nat)(cap:List Nat)(ρ:bg):bg:=eE k .un++cap.map λj=>((ρ[j]?).getD .un).cap
def vW:List Nat->bg->bg->Option bg
 |[],_,ρ=>some ρ
 |j::cap,t::ts,ρ=>match uq ρ j with
  |some _=>match t with
   |.pm ds=>vW cap ts (putAt ρ j ds)
   |_=>none
  |none=>vW cap ts ρ
 |_::_,[],_=>none
def wX(k:Nat)(cap:List Nat)(g:FG)(ft:FT)(fe:FE):aT->bg->Option (aT×bg)
 |[],ρ=>some ([],ρ)
 |d::r,ρ=>match g d (Bk k cap ρ)with
  |none=>none
  |some ρ1=>match ft ρ1 with
   |some (true,ρ2)=>match fe ρ2 with
    |some (x,ρ3)=>match vW cap (ρ3.drop k) ρ with
     |some ρ'=>match wX k cap g ft fe r ρ' with
      |some (xs,ρ'')=>some (x::xs,ρ'')
      |none=>none
     |none=>none
    |none=>none
   |some (false,ρ2)=>match vW cap (ρ2.drop k) ρ with
    |some ρ'=>wX k cap g ft fe r ρ'
    |none=>none
   |none=>none
def sR(k:Nat)(cap:List Nat)(s:FA)(g:FG)(ft:FT)(fe:FE):FA:=λρ=>match s ρ with
 |some (ds,ρ')=>if ds.length<=1000 then wX k cap g ft fe ds ρ' else none
 |none=>none
def ua:FT:=λρ=>some (true,ρ)
theorem zw:∀{cap:List Nat} {ts ρ ρ':bg},vW cap ts ρ=some ρ'->ρ'.length=ρ.length/\
  (∀(j:Nat) (s':Sl),ρ'[j]?=some s'->∃s,ρ[j]?=some s/\((s'=s/\(s.L≠none->j∉cap))\/∃(m:Nat) (ds ds0:aT),cap[m]?=some j/\ts[m]?=some (Sl.pm ds)/\s.L=some ds0/\s'=s.putL ds))
 |[],ts,ρ,ρ',h=>by cases h;exact⟨rfl,λj s' e=>⟨s',e,.inl ⟨rfl,λ_ z=>by cases z⟩⟩⟩
 |j0::cap,[],ρ,ρ',h=>by cases h
 |j0::cap,t::ts,ρ,ρ',h=>by
  unfold vW at h;cases e0:uq ρ j0 with
  |none=>
   simp only[e0]at h;obtain⟨h1,h2⟩:=zw h;refine⟨h1,λj s' e=>?_⟩;obtain⟨s,e1,q⟩:=h2 j s' e;refine⟨s,e1,?_⟩;rcases q with ⟨rfl,q⟩|⟨m,ds,ds0,q1,q2,q3,q4⟩
   ·refine .inl ⟨rfl,λz y=>?_⟩;rcases aN.mp y with y|y
    ·subst y;unfold uq at e0;rw[e1]at e0;exact z e0
    ·exact q z y
   ·exact .inr ⟨m+1,ds,ds0,q1,q2,q3,q4⟩
  |some ds1=>
   simp only[e0]at h;cases t with
   |pm ds=>
    simp only at h;obtain⟨s0,e1,e2⟩:=vM e0;unfold putAt at h;rw[e1]at h;simp only at h;obtain⟨h1,h2⟩:=zw h;refine⟨by rw[h1,eC],λj s' e=>?_⟩;obtain⟨s,e3,q⟩:=h2 j s' e;by_cases hj:j0=j
    ·subst hj;rw[bX,aj rfl]at e3;split at e3
     ·cases e3;refine⟨s0,e1,.inr ?_⟩;rcases q with ⟨rfl,q⟩|⟨m,ds',ds0,q1,q2,q3,q4⟩
      ·exact⟨0,ds,ds1,rfl,rfl,e2,rfl⟩
      ·refine⟨m+1,ds',ds1,q1,q2,e2,?_⟩;rw[q4];cases s0<;>rfl
     ·cases e3
    ·rw[bX,ao hj]at e3;refine⟨s,e3,?_⟩;rcases q with ⟨rfl,q⟩|⟨m,ds',ds0,q1,q2,q3,q4⟩
     ·refine .inl ⟨rfl,λz y=>?_⟩;rcases aN.mp y with y|y
      ·exact hj y.symm
      ·exact q z y
     ·exact .inr ⟨m+1,ds',ds0,q1,q2,q3,q4⟩
   |_=>cases h
def Gx(cap:List Nat)(σ:St)(ρ:bg):List Addr:=cap.filterMap λj=>match uq ρ j,(σ[j]?).join with
 |some _,some (.ref a)=>some a
 |_,_=>none
theorem Ap:a∈Gx cap σ ρ ↔ ∃j∈cap,(∃ds,uq ρ j=some ds)/\(σ[j]?).join=some (.ref a):=by
 unfold Gx;rw[jZ];constructor
 ·rintro⟨j,hj,e⟩;refine⟨j,hj,?_⟩;split at e
  ·rename_i ds a' e1 e2;cases e;exact⟨⟨ds,e1⟩,e2⟩
  ·cases e
 ·rintro⟨j,hj,⟨ds,e1⟩,e2⟩;refine⟨j,hj,?_⟩;rw[e1,e2]
section
variable{X:Cx}{G:Bg}{F:Fr}{σ:St}{ρ:bg}{H0 H:Hp}
theorem Fj(h:(Bk k cap ρ)[i]?=some s):s=.un\/∃m j,i=k+m/\cap[m]?=some j/\s=((ρ[j]?).getD .un).cap:=by
 unfold Bk at h;by_cases hi:i<k
 ·rw[cW (by simpa using hi),fL,aj hi]at h;cases h;exact .inl rfl
 ·rw[cI (by simpa using nP hi),cp,bB]at h;cases e:cap[i - k]? with
  |none=>rw[e]at h;cases h
  |some j=>rw[e]at h;cases h;exact .inr ⟨i - k,j,by omega,e,rfl⟩
theorem Cc(h:cap[m]?=some j):((wA k cap σ)[k+m]?).join=(σ[j]?).join:=by unfold wA;rw[cI (by simp),cp,show k+m - k=m by omega,bB,h];rfl
theorem sL.cap(R:sL G F σ ρ H0 H)(k:Nat)(cap:List Nat)(nd:cap.Nodup):sL G ⟨H0,H,Gx cap σ ρ⟩ (wA k cap σ) (Bk k cap ρ) H0 H where
 sub:=R.sub
 g0:=sA.refl _
 keep:=λb o e _=>e
 fr:=λb o e=>.inl e
 am:=λa ha=>by obtain⟨j,hj,⟨ds,e1⟩,e2⟩:=Ap.mp ha;obtain⟨s,e3,e4⟩:=vM e1;obtain⟨a',xs,h1,h2,_⟩:=(R.sl j s e3).lst e4;rw[e2]at h1;cases h1;exact⟨_,h2⟩
 len:=by unfold wA Bk;rw[aC,aC,cp,cp,ah,ah]
 sl:=λi s e=>by
  rcases Fj e with rfl|⟨m,j,rfl,e1,rfl⟩
  ·trivial
  ·rw[Cc e1];cases e2:ρ[j]? with
   |none=>trivial
   |some s=>
    have ok:=R.sl j s e2;have mem:∀{a:Addr} {ds:aT},s.L=some ds->(σ[j]?).join=some (.ref a)->a∈Gx cap σ ρ:=λh1 h2=>Ap.mpr ⟨j,cJ e1,⟨_,by unfold uq;rw[e2];exact h1⟩,h2⟩;cases s with
    |un=>trivial
    |im d=>exact ok
    |ls ds=>obtain⟨a,xs,h1,h2,h3,h4,h5⟩:=ok;exact⟨a,xs,h1,h2,h3,mem rfl h1,h5⟩
    |pm ds=>obtain⟨a,xs,h1,h2,h3,h4,h5⟩:=ok;exact⟨a,xs,h1,h2,h3,mem rfl h1,h5⟩
    |dk ks ds=>trivial
    |ob c ns ds=>trivial
 ap:=λi i' s t a hii e e' so to v v'=>by
  rcases Fj e with rfl|⟨m,j,rfl,e1,rfl⟩
  ·cases so
  rcases Fj e' with rfl|⟨m',j',rfl,e1',rfl⟩
  ·cases to
  rw[Cc e1]at v;rw[Cc e1']at v';have own:∀{j:Nat},(((ρ[j]?).getD Sl.un).cap).own=true->∃s,ρ[j]?=some s/\s.own=true:=λ{j} h=>by
   cases z:ρ[j]? with
   |none=>rw[z]at h;cases h
   |some s=>rw[z]at h;refine⟨s,rfl,?_⟩;cases s<;>first|rfl|cases h
  obtain⟨s,z,zo⟩:=own so;obtain⟨s',z',zo'⟩:=own to;by_cases hj:j=j'
  ·subst hj;have:m=m':=(List.getElem?_inj (bW.mp e1).1 nd).mp (e1.trans e1'.symm);exact hii (by rw[this])
  ·exact R.ap j j' s s' a hj z z' zo zo' v v'
theorem sL.uncap(R:sL G F σ ρ H0 H){k:Nat}{cap:List Nat}{σ4:St}{ρ4 ρ':bg}{H1 H1':Hp}(R4:sL G ⟨H0,H,Gx cap σ ρ⟩ σ4 ρ4 H1 H1')(hd:σ4.drop k=(wA k cap σ).drop k)(hu:vW cap (ρ4.drop k) ρ=some ρ'):sL G F σ ρ' H1 H1':=by
 obtain⟨hl,hc⟩:=zw hu;have at4:∀{m j:Nat},cap[m]?=some j->(σ4[k+m]?).join=(σ[j]?).join:=λ{m j} e=>by
  have q:(σ4.drop k)[m]?=((wA k cap σ).drop k)[m]?:=by rw[hd]
  rw[de,de]at q;rw[q];exact Cc e
 have nA:∀{j:Nat} {s:Sl} {a:Addr},ρ[j]?=some s->s.own=true->(σ[j]?).join=some (.ref a)->(s.L≠none->j∉cap)->a∉Gx cap σ ρ:=λ{j s a} e so z hn ha=>by
  obtain⟨i,hi,⟨ds,e1⟩,e2⟩:=Ap.mp ha;obtain⟨t,e3,e4⟩:=vM e1;by_cases hij:i=j
  ·subst hij;rw[e]at e3;cases e3;exact hn (by rw[e4];simp) hi
  ·exact R.ap i j t s a hij e3 e (Sl.L_own e4) so e2 z
 have hA:∀a∈Gx cap σ ρ,F.B a=none\/a∈F.A:=λa ha=>by obtain⟨i,hi,⟨ds,e1⟩,e2⟩:=Ap.mp ha;obtain⟨t,e3,e4⟩:=vM e1;obtain⟨a',u,h1,h2,h3,h4⟩:=(R.sl i t e3).at (Sl.L_own e4);rw[e2]at h1;cases h1;exact h4
 have own':∀{j:Nat} {s':Sl},ρ'[j]?=some s'->s'.own=true->∃s,ρ[j]?=some s/\s.own=true:=λ{j s'} e so=>by
  obtain⟨s,e1,q⟩:=hc j s' e;rcases q with ⟨rfl,q⟩|⟨m,ds,ds0,q1,q2,q3,q4⟩
  ·exact⟨s',e1,so⟩
  ·exact⟨s,e1,Sl.L_own q3⟩
 exact {
  sub:=R4.sub
  g0:=R.g0.trans R4.g0
  keep:=λb o e n=>by
   refine R4.keep b o (R.keep b o e n) λha=>?_;rcases hA b ha with q|q
   ·rw[q]at e;cases e
   ·exact n q
  fr:=λb o e=>by
   rcases R4.fr b o e with q|q
   ·exact R.fr b o q
   ·exact .inr (R.bNone q)
  am:=λa ha=>by
   obtain⟨o,q⟩:=R.am a ha;by_cases z:a∈Gx cap σ ρ
   ·exact R4.am a z
   ·exact⟨o,R4.keep a o q z⟩
  len:=by rw[hl];exact R.len
  sl:=λj s' e=>by
   obtain⟨s,e1,q⟩:=hc j s' e;rcases q with ⟨rfl,q⟩|⟨m,ds,ds0,q1,q2,q3,q4⟩
   ·refine(R.sl j s' e1).grow R4.g0 (λa u z so y=>R4.keep a u y (nA e1 so z q)) λa u z so y y0=>?_;cases w:H1 a with
    |none=>rfl
    |some o=>
     rcases R4.fr a o w with x|x
     ·have x':H0 a=some o:=x;rw[x']at y0;cases y0
     ·have x':H a=none:=x;rw[x']at y;cases y
   ·rw[de]at q2;obtain⟨a,xs,h1,h2,h3,h4,h5⟩:=R4.sl _ _ q2;rw[at4 q1]at h1;have ok:=R.sl j s e1;subst q4;cases s with
    |ls ds1=>obtain⟨a',xs',g1,g2,g3,g4,g5⟩:=ok;rw[h1]at g1;cases g1;exact⟨a,xs,h1,h2,h3,g4,h5⟩
    |pm ds1=>obtain⟨a',xs',g1,g2,g3,g4,g5⟩:=ok;rw[h1]at g1;cases g1;exact⟨a,xs,h1,h2,h3,g4,h5⟩
    |_=>cases q3
  ap:=λi j s t a hij ei ej so to v v'=>by
   obtain⟨s0,z,zo⟩:=own' ei so;obtain⟨t0,y,yo⟩:=own' ej to;exact R.ap i j s0 t0 a hij z y zo yo v v' }
theorem Aq{k:Nat}(h:Apart σ ρ p)(hu:vW cap ts ρ=some ρ'):Apart σ ρ' p:=λi s' e so=>by
 obtain⟨s,e1,q⟩:=(zw hu).2 i s' e;rcases q with ⟨rfl,q⟩|⟨m,ds,ds0,q1,q2,q3,q4⟩
 ·exact h i s' e1 so
 ·exact h i s e1 (Sl.L_own q3)
theorem Mj{cap:List Nat}(nd:cap.Nodup):∀σ H Q,tFN G (sR k cap s g ft fe) σ H Q->E7 (tFI G s) (tFG G k g) (tFT G ft) (tF G fe) k cap σ H Q:=λσ H Q hh=>by
 obtain⟨F,ρ,H0,es,ρ',R,e,kk⟩:=hh;unfold sR at e;rcases sW (f:=s) (ρ:=ρ)with e1|⟨ds,ρ1,e1⟩<;>simp only[e1]at e
 ·cases e
 ·split at e
  ·rename_i hlen;refine⟨F,ρ,H0,ds,ρ1,R,e1,λJ H1 H1' s1 R1 wk p hp=>?_⟩;refine⟨λi m acc H2=>m=ds.length - i/\i<=ds.length/\∃ρi Hi dn rest,sA H1 Hi/\sL G F σ ρi Hi H2/\H2 p=some (.lst acc)/\Hi p=none/\Apart σ ρi p/\sj G Hi dn acc/\dn.length<=i/\wX k cap g ft fe (ds.drop i) ρi=some (rest,ρ')/\es=dn++rest,
    ⟨_,rfl,cu _,ρ1,H1,[],es,sA.refl _,R1.newOwn hp _,sr,R1.h0none hp,R1.apart hp,tf,aI _,e,rfl⟩,?_⟩
   rintro i m acc H2 ⟨rfl,hi,ρi,Hi,dn,rest,si,Ri,hp2,hp0,apt,rs,hdn,ei,rfl⟩;by_cases hlt:i<ds.length
   ·have ed:ds.drop i=ds[i]::ds.drop (i+1):=iG hlt;rw[ed]at ei;unfold wX at ei;obtain⟨go,yl⟩:=(wk i Hi H2 si Ri.sub).1 ds[i] (aP hlt);refine .inr ⟨go,λx H3 y=>?_⟩;obtain⟨Hj,t1,t2,t3,t4,t5⟩:=yl x H3 y;have R2:=Ri.grow t3 t1 t2 t4;have hp3:H3 p=some (.lst acc):=t3 _ _ hp2;have hpj:Hj p=none:=by
     cases w:Hj p with
     |none=>rfl
     |some o=>
      rcases t4 p o w with z|z
      ·rw[hp0]at z;cases z
      ·rw[hp2]at z;cases z
    have RC:=R2.cap k cap nd;have npA:p∉Gx cap σ ρi:=λz=>by obtain⟨j,_,⟨ds',q1⟩,q2⟩:=Ap.mp z;obtain⟨t,q3,q4⟩:=vM q1;exact apt j t q3 (Sl.L_own q4) q2
    cases e2:g ds[i] (Bk k cap ρi)with
    |none=>simp only[e2]at ei;cases ei
    |some ρ2=>
     simp only[e2]at ei;refine⟨_,_,Hj,ds[i],ρ2,RC,t5,e2,λσ4 hd4 R4=>⟨hd4,?_⟩⟩;rcases sW (f:=ft) (ρ:=ρ2)with e3|⟨b,ρ3,e3⟩
     ·simp only[e3]at ei;cases ei
     ·refine⟨_,ρ2,Hj,b,ρ3,R4,e3,λH5 H5' s5 R5=>?_⟩;have keepP:∀{σ':St} {ρ'':bg} {Ha Ha':Hp},sL G ⟨Hj,H3,Gx cap σ ρi⟩ σ' ρ'' Ha Ha'->Ha' p=some (.lst acc)/\Ha p=none:=λRz=>by
       refine⟨Rz.keep p _ hp3 npA,?_⟩;refine Option.eq_none_iff_forall_ne_some.mpr λo w2=>?_;rcases Rz.fr p o w2 with z|z
       ·have z':Hj p=some o:=z;rw[hpj]at z';cases z'
       ·have z':H3 p=none:=z;rw[hp3]at z';cases z'
      cases b with
      |false=>
       simp only[e3]at ei;refine Io ?_;cases e4:vW cap (ρ3.drop k) ρi with
       |none=>simp only[e4]at ei;cases ei
       |some ρn=>simp only[e4]at ei;obtain⟨w1,w2⟩:=keepP R5;exact⟨ds.length - (i+1),by omega,rfl,hlt,ρn,H5,dn,rest,si.trans (t1.trans s5),R2.uncap R5 hd4 e4,w1,w2,Aq (k:=k) apt e4,sj.mono (t1.trans s5) _ _ rs,by omega,ei,rfl⟩
      |true=>
       simp only[e3]at ei;refine Ip ?_;rcases sW (f:=fe) (ρ:=ρ3)with e5|⟨x5,ρ5,e5⟩
       ·simp only[e5]at ei;cases ei
       ·simp only[e5]at ei;refine⟨_,ρ3,H5,x5,ρ5,R5,e5,λv H6 H6' s6 R6 rv=>?_⟩;obtain⟨w1,w2⟩:=keepP R6;cases e4:vW cap (ρ5.drop k) ρi with
        |none=>simp only[e4]at ei;cases ei
        |some ρn=>
         simp only[e4]at ei;cases e6:wX k cap g ft fe (ds.drop (i+1)) ρn with
         |none=>simp only[e6]at ei;cases ei
         |some q=>
          obtain⟨rest',ρz⟩:=q;simp only[e6]at ei;cases ei;have Rn:=R2.uncap R6 hd4 e4;have lacc:acc.length=dn.length:=(sq rs).symm;refine⟨acc,w1,A6 (by omega),ds.length - (i+1),by omega,rfl,hlt,ρn,H6,dn++[x5],rest',si.trans (t1.trans (s5.trans s6)),?_,sr,w2,Aq (k:=k) apt e4,u6 (sj.mono (t1.trans (s5.trans s6)) _ _ rs) (sX rv tf),by rw[aC,bh];omega,e6,by rw[bE];rfl⟩;exact {
           sub:=λb o e=>by rw[su (λz=>by rw[z,w2]at e;cases e)];exact Rn.sub b o e
           g0:=Rn.g0
           keep:=λb o e n=>by rw[su (λz=>by subst z;rw[R1.bNone hp]at e;cases e)];exact Rn.keep b o e n
           fr:=Rn.fr
           am:=λb hb=>by
            by_cases z:b=p
            ·subst z;exact⟨_,sr⟩
            ·rw[su z];exact Rn.am b hb
           len:=Rn.len
           sl:=λj t ej=>(Rn.sl j t ej).grow (sA.refl _) (λb u z to q=>by rw[su (λy=>Aq (k:=k) apt e4 j t ej to (by rw[z,y]))];exact q) λb u _ _ _ q=>q
           ap:=Rn.ap }
   ·have ez:ds.drop i=[]:=mB (by omega);rw[ez]at ei;unfold wX at ei;cases ei;rw[bz]at kk;exact .inl ⟨(wk i Hi H2 si Ri.sub).2 (by omega),kk p acc Hi H2 (s1.trans si) Ri hp2 hp0 (R1.bNone hp) apt rs⟩
  ·cases e
theorem Pm{cap:List Nat}(nd:cap.Nodup)(h:PE X e (E7 (tFI G s) (tFG G k g) (tFT G ft) (tF G fe) k cap)):PE X e (tFN G (sR k cap s g ft fe)):=PE.weak h (Mj nd)
theorem Pn:PIf X [] (tFT G ua):=λpins s σ H Q I h=>by obtain⟨F,ρ,H0,b,ρ',R,e,k⟩:=h;cases e;exact R9 pins s σ H Q I (k _ _ (sA.refl _) R)
end
def vA:D->Bool
 |.non=>true|.bl _=>true|.int _=>true|.str _=>true|_=>false
def vD:D->V
 |.non=>.non|.bl b=>.bl b|.int i=>.int i|.str x=>.str x|_=>.non
section
variable{X:Cx}{G:Bg}{H:Hp}
theorem xp(h:Rep G H d v)(f:vA d=true):v=vD d:=by cases d<;>first|(unfold Rep at h;exact h)|cases f
theorem Cd(f:vA d=true):∀H,Rep G H d (vD d):=λH=>by cases d<;>first|(unfold Rep;rfl)|cases f
theorem Dh:∀{ds:aT} {xs:bI},sj G H ds xs->ds.all vA=true->xs=ds.map vD
 |[],xs,h,f=>by unfold sj at h;exact h
 |d::ds,xs,h,f=>by unfold sj at h;obtain⟨v,r,rfl,h1,h2⟩:=h;rw[dJ,bq]at f;rw[az,xp h1 f.1,Dh h2 f.2]
theorem JF(f:vA d=true):Bm (vD d)=true:=by cases d<;>first|rfl|cases f
theorem G5:∀{ds:aT},ds.all vA=true->(ds.map vD).all Bm=true
 |[],_=>rfl
 |d::ds,f=>by rw[dJ,bq]at f;rw[az,dJ,JF f.1,G5 f.2];rfl
theorem OpR.or(h:OpR X f r)(h':OpR X f r'):OpR X f (λx y H Q=>r x y H Q\/r' x y H Q):=λpins s σ H x y v u Q I rx ry q=>q.elim (h pins s σ H x y v u Q I rx ry) (h' pins s σ H x y v u Q I rx ry)
theorem OpD.or(h:OpD G r g)(h':OpD G r' g'):OpD G (λx y H Q=>r x y H Q\/r' x y H Q) (λx y=>match g x y with|some z=>some z|none=>g' x y):=λx y z H0 H v u Q e s rx ry k=>by
 cases e1:g x y with
 |some w=>simp only[e1]at e;cases e;exact .inl (h x y _ H0 H v u Q e1 s rx ry k)
 |none=>simp only[e1]at e;exact .inr (h' x y z H0 H v u Q e s rx ry k)
def dI(C:Int->Int->Bool)(g:Int->Int->D):D->D->Option D
 |.int a,.int b=>if C a b=true then some (g a b)else none
 |_,_=>none
theorem Ml(hC:∀a b,C a b=true->C' a b)(hf:∀a b,vA (g a b)=true/\vD (g a b)=g' a b):OpD G (rI C' g') (dI C g):=λx y z H0 H v u Q e s rx ry k=>by
 unfold dI at e;split at e
 ·rename_i a b;split at e
  ·rename_i hc;cases e;unfold Rep at rx ry;exact⟨a,b,rx,ry,hC _ _ hc,by rw[<-(hf a b).2];exact k _ λH0' _=>Cd (hf a b).1 H0'⟩
  ·cases e
 ·cases e
theorem Di(hf:∀a b,vA (g a b)=true/\vD (g a b)=g' a b):OpD G (rI0 g') (dI (λ_ _=>true) g):=λx y z H0 H v u Q e s rx ry k=>by
 unfold dI at e;split at e
 ·rename_i a b;split at e
  ·cases e;unfold Rep at rx ry;exact⟨a,b,rx,ry,by rw[<-(hf a b).2];exact k _ λH0' _=>Cd (hf a b).1 H0'⟩
  ·cases e
 ·cases e
def tU:=dI (λ_ _=>true) λa b=>.int (a+b)
def JG:=dI (λ_ _=>true) λa b=>.int (a - b)
def BI(a:Int):Bool:=decide (-(2 ^ 64)<a)&&decide (a<2 ^ 64)
def xq:=dI (λa b=>BI a||BI b) λa b=>.int (a * b)
def vB:=dI (λ_ b=>decide (0<b)) λa b=>.int (a % b)
def Bq:=dI (λ_ b=>decide (0<b)&&decide (b<1073741824)) λa b=>.int (a / b)
def DN:=dI (λa b=>decide (0<=b)&&decide (b<=1000000)&&decide (a.natAbs<2 ^ 64)) λa b=>.int (a ^ b.toNat)
def Bl:=dI (λ_ _=>true) λa b=>.bl (decide (a<b))
def yM:=dI (λ_ _=>true) λa b=>.bl (decide (a<=b))
def Fk:=dI (λ_ _=>true) λa b=>.bl (decide (b<a))
def V5:=dI (λ_ _=>true) λa b=>.bl (decide (b<=a))
theorem V6:OpD G (rI0 λi j=>.int (i+j)) tU:=Di λ_ _=>⟨rfl,rfl⟩
theorem V7:OpD G (rI0 λi j=>.int (i - j)) JG:=Di λ_ _=>⟨rfl,rfl⟩
theorem V8:OpD G (rI RH λi j=>.int (i * j)) xq:=Ml (λa b h=>by
 unfold BI at h;simp only[kc,bq,bG]at h;exact h) λ_ _=>⟨rfl,rfl⟩
theorem V9:OpD G (rI (λ_ j=>0<j) λi j=>.int (i % j)) vB:=Ml (λa b h=>by simpa using h) λ_ _=>⟨rfl,rfl⟩
theorem Wa:OpD G (rI Vk λi j=>.int (i / j)) Bq:=Ml (λa b h=>by unfold Vk;simpa using h) λ_ _=>⟨rfl,rfl⟩
theorem Wb:OpD G (rI Y8 λi j=>.int (i ^ j.toNat)) DN:=Ml (λa b h=>by
 simp only[bq,bG]at h;exact⟨h.1.1,h.1.2,h.2⟩) λ_ _=>⟨rfl,rfl⟩
theorem ZD:OpD G (rI0 λi j=>.bl (decide (i<j))) Bl:=Di λ_ _=>⟨rfl,rfl⟩
theorem ZL:OpD G (rI0 λi j=>.bl (decide (i<=j))) yM:=Di λ_ _=>⟨rfl,rfl⟩
theorem ZQ:OpD G (rI0 λi j=>.bl (decide (j<i))) Fk:=Di λ_ _=>⟨rfl,rfl⟩
theorem ZR:OpD G (rI0 λi j=>.bl (decide (j<=i))) V5:=Di λ_ _=>⟨rfl,rfl⟩
def aa5:D->D->Option D
 |.str a,.str b=>if a.length+b.length<=100000 then some (.str (a++b))else none
 |_,_=>none
theorem JH(h:n<=100000):n<=aJ:=bQ h (by rw[bR];decide)
def Po:D->D->Option D
 |.str a,.str b=>some (.bl (!decide (b.cps.toList<a.cps.toList)))
 |_,_=>none
theorem Wc:OpD G (λx y H Q=>∃i j,x=.str i/\y=.str j/\Q (.bl (!decide (j.cps.toList<i.cps.toList))) H) Po:=λx y z H0 H v u Q e s rx ry k=>by
 unfold Po at e;split at e
 ·rename_i a b;cases e;unfold Rep at rx ry;exact⟨a,b,rx,ry,k _ λ_ _=>vm _⟩
 ·cases e
def BJ:D->D->Option D
 |.non,.non=>some (.bl true)
 |_,.non=>some (.bl false)
 |_,_=>none
def y7:D->D->Option D
 |.non,.non=>some (.bl false)
 |_,.non=>some (.bl true)
 |_,_=>none
theorem Mm(h:Rep G H d v):decide (v=.non)=(match d with|.non=>true|_=>false):=by
 cases d<;>unfold Rep at h
 ·subst h;rfl
 ·subst h;rfl
 ·subst h;rfl
 ·subst h;rfl
 ·obtain⟨a,xs,rfl,_⟩:=h;rfl
 ·obtain⟨a,xs,rfl,_⟩:=h;rfl
 ·obtain⟨a,xs,rfl,_⟩:=h;rfl
 ·obtain⟨a,dx,xs,rfl,_⟩:=h;rfl
 ·obtain⟨a,ob,xs,rfl,_⟩:=h;rfl
theorem Wd:OpD G (λx y H Q=>y=.non/\Q (.bl (decide (x=.non))) H) BJ:=λx y z H0 H v u Q e s rx ry k=>by
 have e0:=Mm rx;cases y<;>first|(cases x<;>cases e)|skip
 all_goals (unfold Rep at ry;refine⟨ry,?_⟩;rw[e0];exact k _ λ_ _=>vm _)
theorem SQ:OpD G (λx y H Q=>y=.non/\Q (.bl (!decide (x=.non))) H) y7:=λx y z H0 H v u Q e s rx ry k=>by
 have e0:=Mm rx;cases y<;>first|(cases x<;>cases e)|skip
 all_goals (unfold Rep at ry;refine⟨ry,?_⟩;rw[e0];exact k _ λ_ _=>vm _)
def aaM:D->D->Option D
 |.bl a,.bl b=>some (.bl (a != b))
 |_,_=>none
mutual
def toD:D->Option L3.Dq
 |.non=>some .non
 |.bl b=>some (.bl b)
 |.int i=>some (.int i)
 |.str x=>some (.str x)
 |.tup ds=>match Dk ds with
  |some l=>some (.tup l)
  |none=>none
 |.lst ds=>match Dk ds with
  |some l=>some (.lst l)
  |none=>none
 |.fzl _=>none
 |.obj _ _ _=>none
 |.dic _ _=>none
def Dk:aT->Option (List L3.Dq)
 |[]=>some []
 |d::ds=>match toD d with
  |some x=>match Dk ds with
   |some l=>some (x::l)
   |none=>none
  |none=>none
end
mutual
theorem Iu:∀(d:D) (v:V) (x:L3.Dq),Rep G H d v->toD d=some x->L3.Rep G.K H x v
 |.non,v,x,h,e=>by unfold toD at e;cases e;unfold Rep at h;unfold L3.Rep;exact h
 |.bl b,v,x,h,e=>by unfold toD at e;cases e;unfold Rep at h;unfold L3.Rep;exact h
 |.int b,v,x,h,e=>by unfold toD at e;cases e;unfold Rep at h;unfold L3.Rep;exact h
 |.str b,v,x,h,e=>by unfold toD at e;cases e;unfold Rep at h;unfold L3.Rep;exact h
 |.tup ds,v,x,h,e=>by
  unfold toD at e;cases e1:Dk ds with
  |none=>simp only[e1]at e;cases e
  |some l=>simp only[e1]at e;cases e;unfold Rep at h;obtain⟨a,xs,rfl,h1,h2⟩:=h;unfold L3.Rep;exact⟨a,xs,rfl,h1,Fl ds xs l h2 e1⟩
 |.lst ds,v,x,h,e=>by
  unfold toD at e;cases e1:Dk ds with
  |none=>simp only[e1]at e;cases e
  |some l=>simp only[e1]at e;cases e;unfold Rep at h;obtain⟨a,xs,rfl,h1,h2⟩:=h;unfold L3.Rep;exact⟨a,xs,rfl,SqL.of h1,Fl ds xs l h2 e1⟩
 |.fzl _,v,x,h,e=>by unfold toD at e;cases e
 |.obj _ _ _,v,x,h,e=>by unfold toD at e;cases e
 |.dic _ _,v,x,h,e=>by unfold toD at e;cases e
theorem Fl:∀(ds:aT) (xs:bI) (l:List L3.Dq),sj G H ds xs->Dk ds=some l->L3.sj G.K H l xs
 |[],xs,l,h,e=>by unfold Dk at e;cases e;unfold sj at h;unfold L3.sj;exact h
 |d::ds,xs,l,h,e=>by
  unfold Dk at e;cases e1:toD d with
  |none=>simp only[e1]at e;cases e
  |some x=>
   simp only[e1]at e;cases e2:Dk ds with
   |none=>simp only[e2]at e;cases e
   |some l'=>simp only[e2]at e;cases e;unfold sj at h;obtain⟨v,r,rfl,h1,h2⟩:=h;unfold L3.sj;exact⟨v,r,rfl,Iu d v x h1 e1,Fl ds r l' h2 e2⟩
end
def Dl(neg:Bool):D->D->Option D:=λx y=>match vA x&&vA y&&OE (vD x) (vD y)with
 |true=>some (.bl (if neg then !decide (vD x=vD y)else decide (vD x=vD y)))
 |false=>none
def Dm(neg:Bool):D->D->Option D:=λx y=>match toD x,toD y with
 |some a,some b=>if GZ a b&&decide (dpt a<=20)&&decide (dpt b<=20)then some (.bl (if neg then !eqD a b else eqD a b))else none
 |_,_=>none
def dEq(neg:Bool):D->D->Option D:=λx y=>match Dl neg x y with
 |some z=>some z
 |none=>Dm neg x y
theorem We:OpD G rEq (Dl false):=λx y z H0 H v u Q e s rx ry k=>by
 unfold Dl at e;cases e1:vA x&&vA y&&OE (vD x) (vD y)with
 |false=>simp only[e1]at e;cases e
 |true=>simp only[e1]at e;cases e;simp only[bq]at e1;rw[xp rx e1.1.1,xp ry e1.1.2];exact⟨e1.2,k _ λ_ _=>vm _⟩
theorem Wf:OpD G rNe (Dl true):=λx y z H0 H v u Q e s rx ry k=>by
 unfold Dl at e;cases e1:vA x&&vA y&&OE (vD x) (vD y)with
 |false=>simp only[e1]at e;cases e
 |true=>simp only[e1]at e;cases e;simp only[bq]at e1;rw[xp rx e1.1.1,xp ry e1.1.2];exact⟨e1.2,k _ λ_ _=>vm _⟩
theorem Pp:OpD G (K4 G.K neg) (Dm neg):=λx y z H0 H v u Q e s rx ry k=>by
 unfold Dm at e;cases e1:toD x with
 |none=>simp only[e1]at e;cases e
 |some a=>
  cases e2:toD y with
  |none=>simp only[e1,e2]at e;cases e
  |some b=>
   simp only[e1,e2]at e;split at e
   ·rename_i hc;cases e;simp only[bq,bG]at hc;exact⟨a,b,Iu x v a (Rep.mono s _ _ rx) e1,Iu y u b (Rep.mono s _ _ ry) e2,hc.1.1,hc.1.2,hc.2,k _ λ_ _=>vm _⟩
   ·cases e
theorem Wg(hu:X.A.units+64<cLine)(hK:X.K=G.K:=by rfl):OpR X (br .Eq) (λx y H Q=>rEq x y H Q\/K4 G.K false x y H Q):=by rw[<-hK];exact OpR.or Y9 (VL hu)
theorem Wh(hu:X.A.units+64<cLine)(hK:X.K=G.K:=by rfl):OpR X (br .NotEq) (λx y H Q=>rNe x y H Q\/K4 G.K true x y H Q):=by rw[<-hK];exact OpR.or Za (VM hu)
theorem ZU:OpD G (λx y H Q=>rEq x y H Q\/K4 G.K false x y H Q) (dEq false):=OpD.or We Pp
theorem ZX:OpD G (λx y H Q=>rNe x y H Q\/K4 G.K true x y H Q) (dEq true):=OpD.or Wf Pp
def Pq:D->Option aT
 |.tup ds=>some ds
 |.lst ds=>some ds
 |.fzl ds=>some ds
 |_=>none
theorem Mn(h:Rep G H d v)(e:Pq d=some ds):∃p xs,v=.ref p/\(SqL G.K H p xs\/SqT G.K H p xs)/\sj G H ds xs:=by
 cases d with
 |tup l=>cases e;unfold Rep at h;obtain⟨a,xs,rfl,h1,h2⟩:=h;exact⟨a,xs,rfl,.inr h1,h2⟩
 |lst l=>cases e;unfold Rep at h;obtain⟨a,xs,rfl,h1,h2⟩:=h;exact⟨a,xs,rfl,.inl (SqL.of h1),h2⟩
 |fzl l=>cases e;unfold Rep at h;obtain⟨a,xs,rfl,h1,h2⟩:=h;exact⟨a,xs,rfl,.inl h1,h2⟩
 |_=>cases e
def dIn(neg:Bool):D->D->Option D:=λx y=>match Pq y with
 |some ds=>if vA x&&ds.all vA then some (.bl (if neg then !inV (vD x) (ds.map vD)else inV (vD x) (ds.map vD)))else none
 |none=>none
theorem Mo{K:ay}(s:sA H H')(h:SqL K H p xs\/SqT K H p xs):SqL K H' p xs\/SqT K H' p xs:=h.imp s.seq (SqT.mono s)
theorem UF:OpD G (rIn G.K neg) (dIn neg):=λx y z H0 H v u Q e s rx ry k=>by
 unfold dIn at e;cases e1:Pq y with
 |none=>simp only[e1]at e;cases e
 |some ds=>
  simp only[e1]at e;split at e
  ·rename_i hc;cases e;simp only[bq]at hc;obtain⟨p,xs,rfl,h1,h2⟩:=Mn ry e1;refine⟨p,xs,rfl,Mo s h1,?_,?_,?_⟩
   ·rw[xp rx hc.1];exact JF hc.1
   ·rw[Dh h2 hc.2];exact G5 hc.2
   ·rw[xp rx hc.1,Dh h2 hc.2];exact k _ λ_ _=>vm _
  ·cases e
theorem Wi(hK:X.K=G.K:=by rfl):OpR X (br .In) (rIn G.K false):=by rw[<-hK];exact Nr
theorem NI(hK:X.K=G.K:=by rfl):OpR X (br .NotIn) (rIn G.K true):=by rw[<-hK];exact Ie
def dIx:D->D->Option D
 |.tup ds,.int i=>atI ds i
 |.lst ds,.int i=>atI ds i
 |.fzl ds,.int i=>atI ds i
 |.str x,.int i=>if x.length<=100000 then (atI x.cps.toList i).map λc=>.str ⟨#[c]⟩else none
 |_,_=>none
theorem ZY:OpD G (rIx G.K) dIx:=λx y z H0 H v u Q e s rx ry k=>by
 cases y with
 |int i=>
  unfold Rep at ry;subst ry;cases x with
  |tup ds=>unfold Rep at rx;obtain⟨a,xs,rfl,h1,h2⟩:=rx;obtain⟨w,w1,w2⟩:=Cb h2 (show atI ds i=some z from e);exact .inr (.inl ⟨a,xs,i,w,rfl,rfl,SqT.mono s h1,w1,k _ λH0' s'=>Rep.mono s' _ _ w2⟩)
  |lst ds=>unfold Rep at rx;obtain⟨a,xs,rfl,h1,h2⟩:=rx;obtain⟨w,w1,w2⟩:=Cb h2 (show atI ds i=some z from e);exact .inl ⟨a,xs,i,w,rfl,rfl,s.seq (SqL.of h1),w1,k _ λH0' s'=>Rep.mono s' _ _ w2⟩
  |fzl ds=>unfold Rep at rx;obtain⟨a,xs,rfl,h1,h2⟩:=rx;obtain⟨w,w1,w2⟩:=Cb h2 (show atI ds i=some z from e);exact .inl ⟨a,xs,i,w,rfl,rfl,s.seq h1,w1,k _ λH0' s'=>Rep.mono s' _ _ w2⟩
  |str t=>
   unfold Rep at rx;subst rx;unfold dIx at e;simp only at e;split at e
   ·rename_i hl;cases e1:atI t.cps.toList i with
    |none=>rw[e1]at e;cases e
    |some c=>rw[e1]at e;cases e;exact .inr (.inr ⟨t,i,c,rfl,rfl,JH hl,e1,k _ λ_ _=>zu _⟩)
   ·cases e
  |_=>cases e
 |_=>cases x<;>cases e
theorem ix_X(hK:X.K=G.K:=by rfl):IxR X (rIx G.K):=by rw[<-hK];exact Vz
def G6(G:Bg)(r:bI->Hp->VK->Prop)(g:D->Option D):Prop:=∀x z H0 H v (Q:VK),g x=some z->sA H0 H->Rep G H0 x v->(∀w,(∀H0',sA H0 H0'->Rep G H0' z w)->Q w H)->r [v] H Q
theorem UG(hr:G6 G r g)(h:PE X e (tCB r (tFA G (rV f sI)))):PE X e (tF G (c1 g f)):=PE.weak h λσ H Q hh=>by
 sleep 5
 obtain⟨x,e1,e2⟩:=EH e;refine⟨F,ρ,H0,[x],ρ',R,by unfold rV;rw[e1];rfl,λys H1 H1' s R' rs=>?_⟩
 sleep 1
 exact hr x d H1 H1' v Q e2 R'.sub rv λw hw=>k _ _ _ s R' (hw _ (sA.refl _))
theorem ux.or(h:ux X f r)(h':ux X f r'):ux X f (λx H Q=>r x H Q\/r' x H Q):=λpins s σ H xs us Q I rv q=>q.elim (h pins s σ H xs us Q I rv) (h' pins s σ H xs us Q I rv)
def uw:D->Option D
 |.tup ds=>some (.int ds.length)
 |.lst ds=>some (.int ds.length)
 |.fzl ds=>some (.int ds.length)
 |.str x=>if x.length<=100000 then some (.int x.length)else none
 |.dic ks ds=>some (.int ks.length)
 |_=>none
theorem NJ:ux X (.builtin "len") (λxs H Q=>∃a kvs,xs=[V.ref a]/\Rd H a (.dK kvs)/\Q (.int kvs.length) H):=by intro pins s σ H xs us Q I r h;obtain⟨a,kvs,rfl,ha,q⟩:=h;obtain⟨u,rfl,ru⟩:=vals1 r;cases ru;exact Zn I ha λt s' I'=>⟨.int kvs.length,H,I',⟨t,rfl⟩,q⟩
def UH(K:ay):bI->Hp->VK->Prop:=λxs H Q=>(∃p ys,xs=[.ref p]/\(SqL K H p ys\/SqT K H p ys)/\Q (.int ys.length) H)\/((∃z,xs=[.str z]/\z.length<=aJ/\Q (.int z.length) H)\/(∃a kvs,xs=[V.ref a]/\Rd H a (.dK kvs)/\Q (.int kvs.length) H))
theorem NK(hK:X.K=G.K:=by rfl):ux X (.builtin "len") (UH G.K):=by rw[<-hK];exact ux.or Ig (ux.or Ih NJ)
theorem Wj:G6 G (UH G.K) uw:=λx z H0 H v Q e s rx k=>by
 cases x with
 |tup ds=>cases e;unfold Rep at rx;obtain⟨a,xs,rfl,h1,h2⟩:=rx;refine .inl ⟨a,xs,rfl,.inr (SqT.mono s h1),?_⟩;rw[<-sq h2];exact k _ λ_ _=>uV _
 |lst ds=>cases e;unfold Rep at rx;obtain⟨a,xs,rfl,h1,h2⟩:=rx;refine .inl ⟨a,xs,rfl,.inl (s.seq (SqL.of h1)),?_⟩;rw[<-sq h2];exact k _ λ_ _=>uV _
 |fzl ds=>cases e;unfold Rep at rx;obtain⟨a,xs,rfl,h1,h2⟩:=rx;refine .inl ⟨a,xs,rfl,.inl (s.seq h1),?_⟩;rw[<-sq h2];exact k _ λ_ _=>uV _
 |str t=>
  unfold uw at e;simp only at e;split at e
  ·rename_i hl;cases e;unfold Rep at rx;exact .inr (.inl ⟨t,by rw[rx],JH hl,k _ λ_ _=>uV _⟩)
  ·cases e
 |dic ks ds=>cases e;unfold Rep at rx;obtain⟨a,o,xs,rfl,h1,h2,h3⟩:=rx;refine .inr (.inr ⟨a,_,rfl,.inr ⟨o,s _ _ h1⟩,?_⟩);rw[fm,<- h2,eG];exact k _ λ_ _=>uV _
 |_=>cases e
def JI:D->Option D
 |.int i=>some (.int i)
 |.bl b=>some (.int (if b then 1 else 0))
 |_=>none
theorem Wk:G6 G (λxs H Q=>(∃i,xs=[.int i]/\Q (.int i) H)\/∃k,xs=[.bl k]/\Q (.int (if k then 1 else 0)) H) JI:=λx z H0 H v Q e s rx k=>by
 cases x with
 |int i=>cases e;unfold Rep at rx;subst rx;exact .inl ⟨i,rfl,k _ λ_ _=>uV _⟩
 |bl b=>cases e;unfold Rep at rx;subst rx;exact .inr ⟨b,rfl,k _ λ_ _=>uV _⟩
 |_=>cases e
def Gy:aT->Option (List Bool)
 |[]=>some []
 |.bl b::r=>(Gy r).map (b::·)
 |_=>none
theorem Fm:∀{ds:aT} {xs:bI} {bs:List Bool},sj G H ds xs->Gy ds=some bs->xs=bs.map V.bl
 |[],xs,bs,h,e=>by cases e;unfold sj at h;exact h
 |.bl b::r,xs,bs,h,e=>by
  unfold sj at h;obtain⟨v,q,rfl,h1,h2⟩:=h;unfold Gy at e;cases e1:Gy r with
  |none=>rw[e1]at e;cases e
  |some l=>rw[e1]at e;cases e;unfold Rep at h1;subst h1;rw[Fm h2 e1];rfl
 |.non::r,xs,bs,h,e=>by cases e
 |.int _::r,xs,bs,h,e=>by cases e
 |.str _::r,xs,bs,h,e=>by cases e
 |.tup _::r,xs,bs,h,e=>by cases e
 |.lst _::r,xs,bs,h,e=>by cases e
 |.fzl _::r,xs,bs,h,e=>by cases e
 |.obj _ _ _::r,xs,bs,h,e=>by cases e
 |.dic _ _::r,xs,bs,h,e=>by cases e
def yy:D->Option D
 |.lst ds=>(Gy ds).map λbs=>.bl (bs.all id)
 |_=>none
theorem Wl:G6 G (λxs H Q=>∃(p:Addr) (bs:List Bool),xs=[.ref p]/\SqL G.K H p (bs.map V.bl)/\Q (.bl (bs.all id)) H) yy:=λx z H0 H v Q e s rx k=>by
 cases x with
 |lst ds=>
  unfold yy at e;simp only at e;cases e1:Gy ds with
  |none=>rw[e1]at e;cases e
  |some bs=>rw[e1]at e;cases e;unfold Rep at rx;obtain⟨a,xs,rfl,h1,h2⟩:=rx;rw[Fm h2 e1]at h1;exact⟨a,bs,rfl,s.seq (SqL.of h1),k _ λ_ _=>vm _⟩
 |_=>cases e
theorem NL(hc:X.calm=true)(hK:X.K=G.K:=by rfl):ux X (.builtin "all") (λxs H Q=>∃(p:Addr) (bs:List Bool),xs=[.ref p]/\SqL G.K H p (bs.map V.bl)/\Q (.bl (bs.all id)) H):=by rw[<-hK];exact OZ hc
inductive Ty where
 |b (n:String)|c (k:Nat)
def Ty.val(G:Bg):Ty->ae
 |.b n=>.type n
 |.c k=>.ref (G.ca k)
def Ty.v(G:Bg):Ty->V
 |.b n=>.ty n
 |.c k=>.ref (G.ca k)
def tyD:D->Ty
 |.non=>.b "NoneType" |.bl _=>.b "bool" |.int _=>.b "int" |.str _=>.b "str" |.tup _=>.b "tuple" |.lst _=>.b "list" |.fzl _=>.b "list" |.dic _ _=>.b "dict" |.obj c _ _=>.c c
structure NM(K:ay)(C:Addr):Prop where
 cl:Cls K C
 ha:cE K (.ref C) "__class__" = some (some (.builtin "object.__class__"))
 hn:pd K (.builtin "object.__class__") "__get__" = some (some (.builtin "getset_descriptor.__get__"))
 htk:W.takesIn K (.builtin "object.__class__")=some true
 hm:W.mroIn K C (.type "object")=some true
theorem Pr(I:Inv X pins σ H s)(hK:X.K=G.K)(hd:Rep G H d v)(rv:RelV v u)(hc:∀k ns ds,d=.obj k ns ds->NM X.K (G.ca k))
  (e:cY X.K ((tyD d).val G) c=some b) (h:∀tk,Q (.bool b) { s with toks:=tk }):ai (model X.prog X.w) A (call (.builtin "isinstance") [u,c]) Q E s:=by
 cases d with
 |non=>unfold Rep at hd;subst hd;exact xV I rv .non e h
 |bl x=>unfold Rep at hd;subst hd;exact xV I rv (.bl x) e h
 |int x=>unfold Rep at hd;subst hd;exact xV I rv (.int x) e h
 |str x=>unfold Rep at hd;subst hd;exact xV I rv (.str x) e h
 |tup ds=>unfold Rep at hd;obtain⟨a,xs,rfl,h1,h2⟩:=hd;cases rv;rw[<-hK]at h1;obtain⟨its,_,p,_⟩:=I.tuple h1;obtain⟨o,q1,q2,_⟩:=p;exact cD oY I.kIn ⟨o,q1,q2⟩ e (λz=>nomatch z) h
 |lst ds=>unfold Rep at hd;obtain⟨a,xs,rfl,h1,h2⟩:=hd;exact xV I rv (.lst h1) e h
 |fzl ds=>unfold Rep at hd;obtain⟨a,xs,rfl,h1,h2⟩:=hd;cases rv;rw[<-hK]at h1;obtain⟨its,_,p,_⟩:=I.list h1;obtain⟨o,n,q1,q2,_⟩:=p;exact cD kM I.kIn ⟨o,q1,q2⟩ e (λz=>nomatch z) h
 |dic ks ds=>unfold Rep at hd;obtain⟨a,o,xs,rfl,h1,h2,h3⟩:=hd;cases rv;obtain⟨q0,_,_,vs,_,ob,es,ep,q1,q2,_⟩:=(show tY X.prog X.w H s.heap a (.frz o (.dK (ks.zip xs))) from I.hok a _ h1);exact cD kN I.kIn ⟨ob,q1,q2.1⟩ e (λz=>nomatch z) h
 |obj k ns ds=>have ci:=hc k ns ds rfl;unfold Rep at hd;obtain⟨a,dx,xs,rfl,h1,h2,h3⟩:=hd;exact xV I rv (.ins h1 ci.cl ci.ha ci.hn ci.htk ci.hm) e h
def xt(t:Ty->Option Bool):D->Option D:=λd=>(t (tyD d)).map .bl
theorem G7(c:Ty){t:Ty->Option Bool}(ht:∀y b,t y=some b->cY X.K (y.val G) (c.val G)=some b)(hc:∀k b,t (.c k)=some b->NM X.K (G.ca k))(hK:X.K=G.K:=by rfl):
  ux X (.builtin "isinstance") (λxs H Q=>∃d x b,xs=[x,c.v G]/\Rep G H d x/\t (tyD d)=some b/\Q (.bl b) H):=by
 intro pins s σ H xs us Q I r h;obtain⟨d,x,b,rfl,hd,e,q⟩:=h;obtain⟨u,w',rfl,ru,rw'⟩:=vals2 r;have ew:w'=c.val G:=by cases c<;>exact rw'
 subst ew;exact Pr I hK hd ru (λk ns ds z=>by subst z;exact hc k b e) (ht _ _ e) λtk=>⟨.bl b,H,I.tok _,rfl,q⟩
theorem Mp{c:Ty}(h:PE X e (tCB (λxs H Q=>∃d x b,xs=[x,c.v G]/\Rep G H d x/\t (tyD d)=some b/\Q (.bl b) H) (EU (tF G f) (EU (tC (c.v G)) Jl)))):PE X e (tF G (c1 (xt t) f)):=PE.weak h λσ H Q hh=>by
 sleep 5
 obtain⟨x,e1,e2⟩:=EH e;unfold xt at e2;cases e3:t (tyD x)with
 |none=>rw[e3]at e2;cases e2
 |some b=>rw[e3]at e2;cases e2;exact⟨F,ρ,H0,x,ρ',R,e1,λv H1 H1' s R' r=>⟨x,v,b,rfl,Rep.mono R'.sub _ _ r,e3,k _ _ _ s R' (vm b)⟩⟩
def uW(f g:FE):FA:=λρ=>match f ρ with
 |some (.lst xs,ρ1)=>match g ρ1 with
  |some (.lst ys,ρ2)=>if xs.length+ys.length<=1000 then some (xs++ys,ρ2)else none
  |_=>none
 |_=>none
theorem SR(ha:PE X a (tF G f))(hb:PE X b (tF G g)):PE X (.BinOp a .Add b pos) (tFN G (uW f g)):=PE.weak (OD VB ha hb) λσ H Q hh=>by
 sleep 5
 unfold uW at e;split at e
 ·rename_i xs ρ1 e1;split at e
  ·rename_i ys ρ2 e2;split at e
   ·rename_i hl;cases e;refine⟨F,ρ,H0,_,ρ1,R,e1,λv H1 H1' s R' r=>⟨F,ρ1,H1,_,_,R',e2,λu H2 H2' s2 R2 r2=>?_⟩⟩;have r':=Rep.mono s2 _ _ r;unfold Rep at r' r2;obtain⟨a1,xs1,rfl,h1,h2⟩:=r';obtain⟨a2,xs2,rfl,h3,h4⟩:=r2;refine⟨a1,a2,xs1,xs2,rfl,rfl,R2.sub _ _ h1,R2.sub _ _ h3,by rw[<-sq h2,<- sq h4];exact yd hl,λp hp=>?_⟩;exact k p _ _ _ (s.trans s2) (R2.newOwn hp _) sr (R2.h0none hp) (R2.bNone hp) (R2.apart hp) (u6 h2 h4)
   ·cases e
  ·cases e
 ·cases e
def Ar(f:FE):FA:=λρ=>match f ρ with
 |some (d,ρ1)=>match Pq d with
  |some ds=>some (ds,ρ1)
  |none=>none
 |none=>none
theorem Pt(h:PE X e (tCB (λxs H Q=>∃p ys,xs=[.ref p]/\(SqL G.K H p ys\/SqT G.K H p ys)/\∀l,H l=none->Q (.ref l) (upd H l (.lst ys))) (tFA G (rV f sI)))):PE X e (tFN G (Ar f)):=PE.weak h λσ H Q hh=>by
 obtain⟨F,ρ,H0,ds,ρ',R,e,k⟩:=hh;unfold Ar at e;rcases sW (f:=f) (ρ:=ρ)with e1|⟨d,ρ1,e1⟩<;>simp only[e1]at e
 ·cases e
 ·cases e2:Pq d with
  |none=>simp only[e2]at e;cases e
  |some ds'=>
   simp only[e2]at e;cases e;refine⟨F,ρ,H0,[d],_,R,by unfold rV;rw[e1];rfl,λys H1 H1' s R' rs=>?_⟩
   sleep 1
   obtain⟨p,xs,rfl,h1,h2⟩:=Mn rv e2;exact⟨p,xs,rfl,Mo R'.sub h1,λl hl=>k l _ _ _ s (R'.newOwn hl _) sr (R'.h0none hl) (R'.bNone hl) (R'.apart hl) h2⟩
theorem La(hK:X.K=G.K:=by rfl):ux X (.type "list") (λxs H Q=>∃p ys,xs=[.ref p]/\(SqL G.K H p ys\/SqT G.K H p ys)/\∀l,H l=none->Q (.ref l) (upd H l (.lst ys))):=by rw[<-hK];exact Ii
def G8(f:FE):FE:=λρ=>match f ρ with
 |some (.lst ds,ρ1)=>some (.tup ds,ρ1)
 |some (.tup ds,ρ1)=>some (.tup ds,ρ1)
 |_=>none
theorem Pu(h:PE X e (tCB (λxs H Q=>∃p ys,xs=[.ref p]/\((SqL G.K H p ys/\∀l,H l=none->Q (.ref l) (upd H l (.tup ys)))\/(SqT G.K H p ys/\Q (.ref p) H))) (tFA G (rV f sI)))):PE X e (tF G (G8 f)):=PE.weak h λσ H Q hh=>by
 obtain⟨F,ρ,H0,ds,ρ',R,e,k⟩:=hh;unfold G8 at e;split at e
 ·rename_i xs ρ1 e1;cases e;refine⟨F,ρ,H0,[_],_,R,by unfold rV;rw[e1];rfl,λys H1 H1' s R' rs=>?_⟩
  sleep 1
  unfold Rep at rv;obtain⟨p,zs,rfl,h1,h2⟩:=rv;refine⟨p,zs,rfl,.inl ⟨SqL.of (R'.sub _ _ h1),λl hl=>?_⟩⟩;exact k _ _ _ (s.trans (sG (R'.h0none hl) _)) (R'.newIm hl _) (zt (SqT.of sr) (sj.mono (sG (R'.h0none hl) _) _ _ h2))
 ·rename_i xs ρ1 e1;cases e;refine⟨F,ρ,H0,[_],_,R,by unfold rV;rw[e1];rfl,λys H1 H1' s R' rs=>?_⟩
  sleep 1
  have rv0:=rv;unfold Rep at rv;obtain⟨p,zs,rfl,h1,h2⟩:=rv;exact⟨p,zs,rfl,.inr ⟨SqT.mono R'.sub h1,k _ _ _ s R' rv0⟩⟩
 ·cases e
theorem NN(hK:X.K=G.K:=by rfl):ux X (.type "tuple") (λxs H Q=>∃p ys,xs=[.ref p]/\((SqL G.K H p ys/\∀l,H l=none->Q (.ref l) (upd H l (.tup ys)))\/(SqT G.K H p ys/\Q (.ref p) H))):=by rw[<-hK];exact Gu
def cutD(xs:aT)(lo hi:Option Int):aT:=(xs.drop (HT.sIx xs.length 0 lo)).take (HT.sIx xs.length xs.length hi - HT.sIx xs.length 0 lo)
theorem Fn{lo:Option Int}(r:sj G H0 ds xs):sj G H0 (cutD ds lo hi) (Jo xs lo hi):=by unfold cutD Jo;rw[<-sq r];exact G2 _ (G1 _ r)
def cSl(f:FE)(lo hi:Option Int):FA:=λρ=>match f ρ with
 |some (.lst ds,ρ1)=>some (cutD ds lo hi,ρ1)
 |some (.fzl ds,ρ1)=>some (cutD ds lo hi,ρ1)
 |_=>none
def tO(o:Option Int):TO:=λ_ H Q=>Q o H
theorem NO{lo:Option Int}(h:PE X e (tSl (Nq G.K) (tF G f) (tO lo) (tO hi))):PE X e (tFN G (cSl f lo hi)):=PE.weak h λσ H Q hh=>by
 obtain⟨F,ρ,H0,ds,ρ',R,e,k⟩:=hh;have gen:∀{a:Addr} {xs:bI} {ds':aT} {H1 H1':Hp},sA H0 H1->sL G F σ ρ' H1 H1'->SqL G.K H1 a xs->sj G H1 ds' xs->ds=cutD ds' lo hi->Nq G.K (.ref a) lo hi H1' Q:=λ{a xs ds' H1 H1'} s R' h1 h2 e=>by subst e;exact⟨a,xs,rfl,R'.sub.seq h1,λp hp=>k p _ _ _ s (R'.newOwn hp _) sr (R'.h0none hp) (R'.bNone hp) (R'.apart hp) (Fn h2)⟩
 unfold cSl at e;split at e
 ·rename_i xs ρ1 e1
  sleep 2
  obtain⟨a,ys,rfl,h1,h2⟩:=r;exact gen s R' (SqL.of h1) h2 rfl
 ·rename_i xs ρ1 e1
  sleep 2
  obtain⟨a,ys,rfl,h1,h2⟩:=r;exact gen s R' h1 h2 rfl
 ·cases e
theorem Pw{j pos}:PO X (some (.Constant (.int n) j pos)) (tO (some n)):=λpins s σ H Q I h=>L8 KH pins s σ H Q I ⟨n,rfl,h⟩
theorem ZZ:PO X none (tO none):=L7
theorem Z0(hK:X.K=G.K:=by rfl):SlR X (Nq G.K):=by rw[<-hK];exact RV
end
def Sl.bor:Sl->Sl
 |.un=>.un
 |.im d=>.im d
 |.ls ds=>.im (.lst ds)
 |.pm ds=>.im (.lst ds)
 |.dk _ _=>.un
 |.ob c ns ds=>.im (.obj c ns ds)
section
variable{X:Cx}{G:Bg}
theorem sL.bor(R:sL G F σ ρ H0 H):sL G ⟨H,H,[]⟩ σ (ρ.map Sl.bor) H H where
 sub:=sA.refl _
 g0:=sA.refl _
 keep:=λb o e _=>e
 fr:=λb o e=>.inl e
 am:=λa h=>by cases h
 len:=by rw[ah];exact R.len
 sl:=λi s e=>by
  rw[bB]at e;cases e1:ρ[i]? with
  |none=>rw[e1]at e;cases e
  |some t=>
   rw[e1]at e;cases e;have ok:=R.sl i t e1;cases t with
   |un=>trivial
   |im d=>obtain⟨v,h1,h2⟩:=ok;exact⟨v,h1,Rep.mono R.sub _ _ h2⟩
   |ls ds=>obtain⟨a,xs,h1,h2,h3,h4,h5⟩:=ok;exact⟨_,h1,yB h2 (sj.mono R.sub _ _ h5)⟩
   |pm ds=>obtain⟨a,xs,h1,h2,h3,h4,h5⟩:=ok;exact⟨_,h1,yB h2 (sj.mono R.sub _ _ h5)⟩
   |dk ks ds=>trivial
   |ob c ns ds=>obtain⟨a,dx,xs,h1,h2,h3,h4,h5,h6⟩:=ok;exact⟨_,h1,by unfold Rep;exact⟨a,dx,xs,rfl,h2,h5,sj.mono R.sub _ _ h6⟩⟩
 ap:=λi j s t a _ e _ so=>by
  rw[bB]at e;cases e1:ρ[i]? with
  |none=>rw[e1]at e;cases e
  |some t=>rw[e1]at e;cases e;cases t<;>cases so
theorem sL.unbor(R:sL G F σ ρ H0 H)(R':sL G ⟨H,H,[]⟩ σ' ρ' H1 H1'):sL G F σ ρ H0 H1':=
 R.grow (λb o e=>R'.keep b o e (by simp)) (sA.refl _) (λb o e=>R'.keep b o (R.sub _ _ e) (by simp)) λb o e=>.inl e
def Ce(f:FE):FE:=λρ=>match f (ρ.map Sl.bor)with
 |some (d,_)=>if vA d=true then some (d,ρ)else none
 |none=>none
def Br(f:FT):FT:=λρ=>match f (ρ.map Sl.bor)with
 |some (d,_)=>some (d,ρ)
 |none=>none
theorem Wm(h:PE X e (tF G f)):PE X e (tF G (Ce f)):=PE.weak h λσ H Q hh=>by
 sleep 5
 unfold Ce at e;rcases sW (f:=f) (ρ:=ρ.map Sl.bor)with e1|⟨x,ρ1,e1⟩<;>simp only[e1]at e
 ·cases e
 ·split at e
  ·rename_i hf;cases e;refine⟨_,_,H,d,ρ1,R.bor,e1,λv H1 H1' s R' r=>?_⟩;rw[xp r hf];exact k _ _ _ (sA.refl _) (R.unbor R') (Cd hf _)
  ·cases e
theorem SU(h:PT X e (tFT G f)):PT X e (tFT G (Br f)):=PT.weak h λσ H Q hh=>by
 sleep 5
 unfold Br at e;rcases sW (f:=f) (ρ:=ρ.map Sl.bor)with e1|⟨x,ρ1,e1⟩<;>simp only[e1]at e
 ·cases e
 ·cases e;exact⟨_,_,H,d,ρ1,R.bor,e1,λH1 H1' s R'=>k _ _ (sA.refl _) (R.unbor R')⟩
def v8(g g':D->D->Option D)(fa fb fc:FE):FE:=λρ=>match fa ρ with
 |some (x,ρ1)=>match fb ρ1 with
  |some (y,ρ2)=>match g x y with
   |some (.bl true)=>match fc ρ2 with
    |some (z,ρ3)=>match g' y z with
     |some w=>some (w,ρ3)
     |none=>none
    |none=>none
   |some (.bl false)=>some (.bl false,ρ2)
   |_=>none
  |none=>none
 |none=>none
theorem JJ(ho:OpD G r g)(ho':OpD G r' g'):∀σ H Q,tF G (v8 g g' fa fb fc) σ H Q->KM r r' (tF G fa) (tF G fb) (tF G fc) σ H Q:=λσ H Q hh=>by
 sleep 5
 unfold v8 at e;rcases sW (f:=fa) (ρ:=ρ)with e1|⟨x,ρ1,e1⟩<;>simp only[e1]at e
 ·cases e
 rcases sW (f:=fb) (ρ:=ρ1)with e2|⟨y,ρ2,e2⟩<;>simp only[e2]at e
 ·cases e
 refine⟨F,ρ,H0,x,ρ1,R,e1,λv H1 H1' s1 R1 r1=>⟨F,ρ1,H1,y,ρ2,R1,e2,λu H2 H2' s2 R2 r2=>?_⟩⟩;split at e
 ·rename_i e3;refine ho x y _ H2 H2' v u _ e3 R2.sub (Rep.mono s2 _ _ r1) r2 λw hw=>?_;have hw':=hw H2 (sA.refl _);unfold Rep at hw';refine⟨true,hw',Ip ?_⟩;rcases sW (f:=fc) (ρ:=ρ2)with e4|⟨z,ρ3,e4⟩<;>simp only[e4]at e
  ·cases e
  cases e5:g' y z with
  |none=>simp only[e5]at e;cases e
  |some q=>simp only[e5]at e;cases e;refine⟨F,ρ2,H2,z,_,R2,e4,λt H3 H3' s3 R3 r3=>?_⟩;exact ho' y z _ H3 H3' u t Q e5 R3.sub (Rep.mono s3 _ _ r2) r3 λw hw=>k w H3 H3' (s1.trans (s2.trans s3)) R3 (hw _ (sA.refl _))
 ·rename_i e3;cases e;refine ho x y _ H2 H2' v u _ e3 R2.sub (Rep.mono s2 _ _ r1) r2 λw hw=>?_;have hw':=hw H2 (sA.refl _);unfold Rep at hw';exact⟨false,hw',Io (k _ _ _ (s1.trans s2) R2 (vm false))⟩
 ·cases e
theorem Px(hr:OpR X (br op) r)(hr':OpR X (br op') r')(ho:OpD G r g)(ho':OpD G r' g')(ha:PE X a (tF G fa))(hb:PE X b (tF G fb))(hc:PE X c (tF G fc))
  (hm:lastMarks [op,op'] [b,c]=false:=by with_unfolding_all rfl):PE X (.Compare a [op,op'] [b,c] pos) (tF G (v8 g g' fa fb fc)):=PE.weak (OH hr hr' ha hb hc hm) (JJ ho ho')
theorem NP(hr:OpR X (br op) r)(hr':OpR X (br op') r')(ho:OpD G r g)(ho':OpD G r' g')(ha:PE X a (tF G fa))(hb:PE X b (tF G fb))(hc:PE X c (tF G fc))
  (hm:lastMarks [op,op'] [b,c]=false:=by with_unfolding_all rfl):PT X (.Compare a [op,op'] [b,c] pos) (tFT G (cT (v8 g g' fa fb fc))):=PT.weak (OI hr hr' ha hb hc hm) λσ H Q hh=>by
 obtain⟨F,ρ,H0,d,ρ',R,e,k⟩:=Ir σ H Q hh;exact JJ ho ho' σ H _ ⟨F,ρ,H0,d,ρ',R,e,k⟩
end
def y8(P:aV)(w:aL)(K:ay)(mg:Str->Option ae)(base:Heap)(k:Nat)(x:Str)(ps:aF)(sp:Sp):Prop:=
 ∃(f:Addr) (fd:cb),mg x=some (.ref f)/\du K (.ref f)=true/\Binds K fd ps []/\wx P w K mg base CX0 k f fd ps sp
def Iv(G:Bg)(P:aV)(w:aL)(mg:Str->Option ae)(base:Heap)(k:Nat)(x:Str)(c:Nat)(ps:aF)(dvs:bI)(g:aT->Option (aF×aT)):Prop:=
 ∃(f:Addr) (fd:cb) (ds:List ae),Mk G.K (G.ca c) f/\mg x=some (.ref (G.ca c))/\Binds G.K fd ps ds/\Vals dvs ds/\wx P w G.K mg base CX0 k f fd ps (spI G c g)
def zx(G:Bg)(P:aV)(w:aL)(mg:Str->Option ae)(base:Heap)(k:Nat)(m:Str)(c:Nat)(h:aT->Option D):Prop:=
 ∃(f:Addr) (fd:cb) (ps:aF),Cls G.K (G.ca c)/\Meth G.K (G.ca c) m f/\Binds G.K fd ps []/\wx P w G.K mg base CX0 k f fd ps (spF G h)
section
variable{X:Cx}{G:Bg}{k:Nat}{x m:Str}{p pos apos:Pos}{e o:Expr}{es:List Expr}{a:FA}{ps:aF}
theorem DO{α:Type}(g:aT->α):(λds=>g (ds++[]))=g:=funext λds=>by rw[bz]
theorem Wn(D:y8 X.prog X.w X.K X.mg X.base k x ps (spF G g))(hr:uy k X.A)(ha:PA X (e::es) (tFA G a))(hg:Gl X x:=by rfl)(hdb:(x==("__debug__" : Str))=false:=by decide)(he:aA (e::es) X.env=(false,eval e X.env)::aA es X.env:=by rfl)(hpl:(bD pos (aA es X.env)).any (·.1)=false:=by rfl):
  PE X (.Call (.Name x p) (e::es) [] pos) (tF G (r9 g a)):=by
 obtain⟨f,fd,h1,h2,h3,h4⟩:=D;have q:=SF (dvs:=[]) (dds:=[]) (λ_=>tf) (B3 (p:=p) (pos:=pos) h4 hr hg h1 h2 h3 .nil DL ha hdb he hpl);rw[DO]at q;exact q
theorem SV(D:y8 X.prog X.w X.K X.mg X.base k x ps (spN G g))(hr:uy k X.A)(ha:PA X (e::es) (tFA G a))(hg:Gl X x:=by rfl)(hdb:(x==("__debug__" : Str))=false:=by decide)(he:aA (e::es) X.env=(false,eval e X.env)::aA es X.env:=by rfl)(hpl:(bD pos (aA es X.env)).any (·.1)=false:=by rfl):
  PE X (.Call (.Name x p) (e::es) [] pos) (tFN G (tp g a)):=by
 obtain⟨f,fd,h1,h2,h3,h4⟩:=D;have q:=Pe (dvs:=[]) (dds:=[]) (λ_=>tf) (B3 (p:=p) (pos:=pos) h4 hr hg h1 h2 h3 .nil DL ha hdb he hpl);rw[DO]at q;exact q
theorem Py(D:y8 X.prog X.w X.K X.mg X.base k x ps (spN G g))(hr:uy k X.A)(hg:Gl X x:=by rfl)(hdb:(x==("__debug__" : Str))=false:=by decide):PE X (.Call (.Name x p) [] [] pos) (tFN G (tp g sI)):=by obtain⟨f,fd,h1,h2,h3,h4⟩:=D;exact NC (OM h4 hr hg h1 h2 h3 .nil DL hdb)
theorem SW(D:y8 X.prog X.w X.K X.mg X.base k x ps (spM G g))(hr:uy k X.A)(hv:PE X e (yL i))(ha:PA X es (tFA G a))(hg:Gl X x:=by rfl)(hdb:(x==("__debug__" : Str))=false:=by decide)(he:aA (e::es) X.env=(false,eval e X.env)::aA es X.env:=by rfl)(hpl:(bD pos (aA es X.env)).any (·.1)=false:=by rfl):
  PE X (.Call (.Name x p) (e::es) [] pos) (tF G (tu g i a)):=by
 obtain⟨f,fd,h1,h2,h3,h4⟩:=D;exact V4 (B3 (p:=p) (pos:=pos) h4 hr hg h1 h2 h3 .nil DL (uD hv ha he) hdb he hpl)
theorem SX(M:Iv G X.prog X.w X.mg X.base k x c ps dvs g)(hd:∀H,sj G H dds dvs)(hr:uy (k+1) X.A)(ha:PA X (e::es) (tFA G a))(hK:X.K=G.K:=by rfl)(hg:Gl X x:=by rfl)(hdb:(x==("__debug__" : Str))=false:=by decide)
  (he:aA (e::es) X.env=(false,eval e X.env)::aA es X.env:=by rfl) (hpl:(bD pos (aA es X.env)).any (·.1)=false:=by rfl):
  PE X (.Call (.Name x p) (e::es) [] pos) (tF G (tD c (λds=>g (ds++dds)) a)):=by
 obtain⟨f,fd,ds,h1,h2,h3,h4,h5⟩:=M;rw[<-hK]at h1 h3 h5;exact SH hd (RP (p:=p) (pos:=pos) h1 h5 hr hg h2 h3 h4 DL ha hdb he hpl)
theorem UI(M:∀c h,g c=some h->zx G X.prog X.w X.mg X.base k m c h)(hr:uy k X.A)(hK:X.K=G.K):∀C sp,MT G g C sp->MOk X C m sp [] E0:=λC sp h=>by obtain⟨c,h,e,rfl,rfl⟩:=h;obtain⟨f,fd,ps,q1,q2,q3,q4⟩:=M c h e;rw[<-hK]at q1 q2 q3 q4;exact⟨k,f,fd,ps,[],q1,q2,q4,hr,q3,.nil,DL⟩
theorem NQ(M:∀c h,g c=some h->zx G X.prog X.w X.mg X.base k m c h)(hr:uy k X.A)(ho:PE X o (tF G f))(ha:PA X (e::es) (tFA G a))(hK:X.K=G.K:=by rfl)
  (hst:aA (e::es) X.env=(false,eval e X.env)::aA es X.env:=by rfl) (hpl:(bD pos (aA es X.env)).any (·.1)=false:=by rfl)
  (ht:eval (.Call (.Attribute o m apos) (e::es) [] pos) X.env=(do
   let ov<-eval o X.env
   standAt apos.atName
   let (f,first)<-holding [ov] (getMethod ov m pl)
   callWith pos f first (bD pos (aA (e::es) X.env)) (backToKw pos (dq [] X.env))):=by rfl):
  PE X (.Call (.Attribute o m apos) (e::es) [] pos) (tF G (tS g m f a)):=SG (E:=E0) (Pg (dvs:=[]) (MT G g) (UI M hr hK) ho ha hst hpl ht)
theorem Lb(M:∀c h,g c=some h->zx G X.prog X.w X.mg X.base k m c h)(hr:uy k X.A)(ho:PE X o (tF G f))(hK:X.K=G.K:=by rfl)
  (ht:eval (.Call (.Attribute o m apos) [] [] pos) X.env=(do
   let ov<-eval o X.env
   standAt apos.atName
   let (f,first)<-holding [ov] (getMethod ov m pl)
   callWith pos f first (bD pos (aA [] X.env)) (backToKw pos (dq [] X.env))):=by rfl):
  PE X (.Call (.Attribute o m apos) [] [] pos) (tF G (tS g m f sI)):=Ph (E:=E0) (NF (dvs:=[]) (MT G g) (UI M hr hK) ho ht)
end
section
variable{P:aV}{w:aL}{K:ay}{mg:Str->Option ae}{base:Heap}{x qual:Str}{st:Stmt}{f T:Addr}{fd:cb}{N ps:aF}{k:Nat}{G:Bg}
abbrev Bs(P:aV)(w:aL)(K:ay)(mg:Str->Option ae)(base:Heap)(N:aF)(qual:Str)(st:Stmt)(f:Addr)(cdv:ae)(A:aS)(outer:List Env)(s:ag)(H:Hp)(E:XK):Cx:=(Jm CX0 P w K mg base N qual (sM st) f cdv A outer s H E).nox
theorem Pz(hg:g=fnD np n b)(hp:ps.length=np)(hN:N.length=n)(F:Fun K x qual st f fd)(S:uu N ps (sM st))(body:∀(cdv:ae) (A:aS) (outer:List Env) (s:ag) (H:Hp) (E:XK),uy k (A.deeper (envOfC qual (sM st) s.heap.objs.size f cdv))->PSs (Bs P w K mg base N qual st f cdv A outer s H E) (tG st) (tFS G b)):
  wx P w K mg base CX0 (k+1) f fd ps (spF G g):=by
 subst hg hp hN;exact F.ok S (Zy SA) λcdv A outer s H vs Q E hr h=>⟨_,body cdv A outer s H E hr,Sx (by have:=aU bY S.pre;rw[bw]at this;omega) h⟩
theorem Z1(hg:g=fnN np n b)(hp:ps.length=np)(hN:N.length=n)(F:Fun K x qual st f fd)(S:uu N ps (sM st))(body:∀(cdv:ae) (A:aS) (outer:List Env) (s:ag) (H:Hp) (E:XK),uy k (A.deeper (envOfC qual (sM st) s.heap.objs.size f cdv))->PSs (Bs P w K mg base N qual st f cdv A outer s H E) (tG st) (tFS G b)):
  wx P w K mg base CX0 (k+1) f fd ps (spN G g):=by
 subst hg hp hN;exact F.ok S (Zz SC) λcdv A outer s H vs Q E hr h=>⟨_,body cdv A outer s H E hr,Sy (by have:=aU bY S.pre;rw[bw]at this;omega) h⟩
theorem Z2{ps:aF}(hg:g=fnM np n b)(hp:ps.length=np)(hN:N.length=n)(F:Fun K x qual st f fd)(S:uu N (p::ps) (sM st))(body:∀(cdv:ae) (A:aS) (outer:List Env) (s:ag) (H:Hp) (E:XK),uy k (A.deeper (envOfC qual (sM st) s.heap.objs.size f cdv))->PSs (Bs P w K mg base N qual st f cdv A outer s H E) (tG st) (tFS G b)):
  wx P w K mg base CX0 (k+1) f fd (p::ps) (spM G g):=by
 subst hg hp hN;exact F.ok S (Pi SM) λcdv A outer s H vs Q E hr h=>⟨_,body cdv A outer s H E hr,SL (by have:=aU bY S.pre;rw[bw,aH]at this;omega) h⟩
theorem UJ(hg:∀ds q,g ds=some q->ds.length=np):∀vs H Q E,spI G c g vs H Q E->vs.length=np+1:=λvs H Q E h=>by obtain⟨p,dx,us,H0,ds,ns,es,rfl,_,_,_,r,e,_⟩:=h;rw[aH,<- sq r,hg _ _ e]
theorem Z3{ps:aF}(hg:g=fnI c np n b)(hp:ps.length=np)(hN:N.length=n)(F:Fun K x qual st f fd)(S:uu N (p::ps) (sM st))(body:∀(cdv:ae) (A:aS) (outer:List Env) (s:ag) (H:Hp) (E:XK),uy k (A.deeper (envOfC qual (sM st) s.heap.objs.size f cdv))->PSs (Bs P w K mg base N qual st f cdv A outer s H E) (tG st) (tFS G b)):
  wx P w K mg base CX0 (k+1) f fd (p::ps) (spI G c g):=by
 subst hg hp hN;exact F.ok S (UJ λds q h=>(Fe h).1) λcdv A outer s H vs Q E hr h=>⟨_,body cdv A outer s H E hr,Mh (by have:=aU bY S.pre;rw[bw,aH]at this;omega) h⟩
theorem Wo{ps:aF}(hg:g=fnI c np n b)(hp:ps.length=np)(hN:N.length=n)(F:NA K x qual st f fd T)(S:uu N (p::ps) (sM st))(body:∀(cdv:ae) (A:aS) (outer:List Env) (s:ag) (H:Hp) (E:XK),uy k (A.deeper (envOfC qual (sM st) s.heap.objs.size f cdv))->PSs (Bs P w K mg base N qual st f cdv A outer s H E) (tG st) (tFS G b)):
  wx P w K mg base CX0 (k+1) f fd (p::ps) (spI G c g):=by
 subst hg hp hN;exact F.ok S (UJ λds q h=>(Fe h).1) λcdv A outer s H vs Q E hr h=>⟨_,body cdv A outer s H E hr,Mh (by have:=aU bY S.pre;rw[bw,aH]at this;omega) h⟩
end
section
variable{X:Cx}{G:Bg}
def A7(G:Bg)(mg:Str->Option ae)(x:Str)(d:D):Prop:=∃(v:V) (u:ae),mg x=some u/\RelV v u/\∀H,Rep G H d v
theorem PB(h:A7 G X.mg x d)(hg:Gl X x:=by rfl)(hd:(x==("__debug__" : Str))=false:=by decide):PE X (.Name x pos) (tF G (cC d)):=by obtain⟨v,u,h1,h2,h3⟩:=h;exact Sh (LV hg h1 h2 hd) h3
def NR:FS:=λ_=>none
def vq(T:String):Ty->Option Bool
 |.b n=>if n="NoneType" then some false else if n="bool" then some (T=="bool" ||T=="int")else if n="int" then some (T=="int")else if n="str" then some (T=="str")else if n="tuple" then some (T=="tuple")else if n="list" then some (T=="list")else if n="dict" then some (T=="dict")else none
 |.c _=>none
theorem PD:∀k b,vq T (.c k)=some b->NM X.K (G.ca k):=λk b h=>by cases h
theorem PF:∀y b,vq "list" y=some b->cY X.K (y.val G) (.type "list")=some b:=λy b h=>by
 cases y with
 |c k=>cases h
 |b n=>
  unfold vq at h;simp only at h
  iterate 7 (split at h;· rename_i e;subst e;cases h;first|rfl|kernel_rfl)
  cases h
theorem SY:∀y b,vq "str" y=some b->cY X.K (y.val G) (.type "str")=some b:=λy b h=>by
 cases y with
 |c k=>cases h
 |b n=>
  unfold vq at h;simp only at h
  iterate 7 (split at h;· rename_i e;subst e;cases h;first|rfl|kernel_rfl)
  cases h
end
end L4
namespace L3
open PySem PySem.Spec PyProof.Rows L2
theorem SZ{X:Cx}{spos:Pos}{cap:List Nat}
  (hc:X.calm=true) (hN:X.N.Nodup) (hy:X.N[i]?=some y) (hyl:Loc X.env.scope y) (hi:PI X tg iter wi)
  (body:∀(cl:List (Str×Addr)) (C:Addr) (fp:List Addr) (s:ag) (H:Hp),PG (uz X N' scope cl C fp s H) tg g/\PIf (uz X N' scope cl C fp s H) ifs tt/\PE (uz X N' scope cl C fp s H) elt te)
  (hkind:scope.kind=.function:=by rfl) (hcell:(scope.names.all λy=>y.2 != .cell)=true:=by rfl)
  (hloc:(scope.names.all λy=>y.2 != .local||scope.names.lookup y.1==some .local)=true:=by rfl)
  (hfree:(scope.names.all λy=>y.2 != .free||(X.env.kindOf y.1==some .cell||X.env.kindOf y.1==some .free))=true:=by rfl)
  (hlen:N'.length=k+cap.length:=by rfl) (hcap:(N'.drop k).map some=cap.map λj=>X.N[j]?:=by rfl)
  (hcf:((N'.drop k).all λx=>scope.names.lookup x==some .free)=true:=by rfl)
  (hs:∀x,gO iter X.env x=pure x:=by intro _;rfl)
  (hsw:dt (.ListComp elt [⟨tg,iter,ifs,0⟩] scope pos) (some (.Name y py)) spos.line X.env=pure true:=by rfl)
  (hfy:X.fn y=true\/X.env.scope.names.lookup y=some .local:=by first|exact .inl rfl|exact .inr rfl|assumption):
  PS X (.Assign [.Name y py] (.ListComp elt [⟨tg,iter,ifs,0⟩] scope pos) spos) (CU (E7 wi g tt te k cap) (yZ i)):=by
 intro pins s σ H D I h;rw[exec_Assign_Name_used _ _ _ _ hsw];refine aq (oT (aq ?_));show ai _ X.A (do let _<-comprehension (.ListComp elt [⟨tg,iter,ifs,0⟩] scope pos) scope X.env _ (newList []) false (eval iter X.env) (some (assign (.Name y py) X.env))) _ _ s;refine aq (bZ (GY (P:=λ_ s'=>SP X pins D .next s') hc hi body hkind hcell hloc hfree hlen hcap hcf hs I h λa C m u s4 H3 hn back fpC qn=>?_) (λ_ s' hq=>aB (aB hq)) λ_ _ e=>e);obtain⟨oC,esC,nC,gC,dC,rC⟩:=id hn;have I7:=back.pinned (fp:=[C]) (λb hb=>aR.mp hb▸fpC) (λb hb=>aR.mp hb▸⟨oC,gC,λv z=>by rw[dC]at z;cases z⟩);show ai _ X.A (assign (.Name y py) X.env (.ref a)) _ _ s4;refine thn (LX (pos:=py) hN hy hyl hfy _ s4 σ H3 (.ref a) (.ref a) (λσ' H'=>D.nx σ' H') I7 rfl qn) λ_ s6 zz=>?_;obtain⟨σ6,H6,I8,q6⟩:=zz;obtain⟨p1,p2,_⟩:=I8.pin (C,oC) (bS _ (bS _ (ya (by simp) gC)));exact⟨m,⟨oC,esC,nC,p1,dC,rC⟩,λh' hs'=>⟨σ6,H6,I8.unpinned.turned (t':=s6.toks) (λb o hb e=>(hs'.2 b hb).trans e) p2 fpC.2.1 fpC.2.2.2.1 fpC.2.2.2.2.1 fpC.2.2.2.2.2,q6⟩⟩
end L3
namespace L4
open PySem PySem.Spec PyProof.Rows L2 L3
section
variable{X:Cx}{G:Bg}
theorem JK{st:Stmt}(h:PS X st (CU te g))(w:∀σ H Q,te' σ H Q->te σ H Q):PS X st (CU te' g):=PS.weak h λE σ H hh=>w _ _ _ hh
theorem PH{st:Stmt}{cap:List Nat}(nd:cap.Nodup)(h:PS X st (CU (E7 (tFI G s) (tFG G k g) (tFT G ft) (tF G fe) k cap) (yZ i))):PS X st (tFS G (sO i (cL (sR k cap s g ft fe)))):=Mg (JK (JK h (Mj nd)) Zx)
end
section
variable{f g h:FS}{c:FT}{e e' e2:FE}{a a':FA}{ρ ρ' ρ1 ρ2 ρ3:bg}{d x y z:D}{o:Out}{ds xs ys:aT}
theorem rX(h:f ρ=some (.nx ρ')):r6 f g ρ=g ρ':=by unfold r6;rw[h]
theorem sJ(h:f ρ=some (.rt d ρ')):r6 f g ρ=some (.rt d ρ'):=by unfold r6;rw[h]
theorem sP(h:c ρ=some (true,ρ')):sIf c f g ρ=f ρ':=by unfold sIf;rw[h]
theorem sf(h:c ρ=some (false,ρ')):sIf c f g ρ=g ρ':=by unfold sIf;rw[h]
theorem sE(h:e ρ=some (d,ρ')):sO i e ρ=some (.nx (ρ'.set i (.im d))):=by unfold sO;rw[h]
theorem zy(h:a ρ=some (ds,ρ')):uT i a ρ=some (.nx (ρ'.set i (.ls ds))):=by unfold uT;rw[h]
theorem sH(h:e ρ=some (d,ρ')):sy e ρ=some (.rt d ρ'):=by unfold sy;rw[h]
theorem zz(h:a ρ=some (ds,ρ')):uI a ρ=some (.rn ds ρ'):=by unfold uI;rw[h]
theorem tV(h:e ρ=some (d,ρ')):sY e ρ=some (.nx ρ'):=by unfold sY;rw[h]
theorem se{g:D->D->Option D}(h1:e ρ=some (x,ρ1))(h2:e' ρ1=some (y,ρ2))(h3:g x y=some z):c2 g e e' ρ=some (z,ρ2):=by unfold c2;rw[h1];simp only[h2,h3]
theorem tQ{g:D->Option D}(h1:e ρ=some (x,ρ1))(h3:g x=some z):c1 g e ρ=some (z,ρ1):=by unfold c1;rw[h1];simp only[h3]
theorem PJ(h1:e (ρ.map Sl.bor)=some (d,ρ1))(hf:vA d=true):Ce e ρ=some (d,ρ):=by unfold Ce;rw[h1];simp only[hf,if_true]
theorem Iw(h1:c (ρ.map Sl.bor)=some (b,ρ1)):Br c ρ=some (b,ρ):=by unfold Br;rw[h1]
theorem tN(h1:e ρ=some (.bl b,ρ1)):cT e ρ=some (b,ρ1):=by unfold cT;rw[h1]
theorem Cf(h1:c ρ=some (b,ρ1)):wc c ρ=some (!b,ρ1):=by unfold wc;rw[h1]
theorem zA(h1:c ρ=some (false,ρ1))(h2:c' ρ1=some (b,ρ2)):xn c c' ρ=some (b,ρ2):=by unfold xn;rw[h1];exact h2
theorem rW(h1:e ρ=some (d,ρ1))(h2:a ρ1=some (ds,ρ2)):rV e a ρ=some (d::ds,ρ2):=by unfold rV;rw[h1];simp only[h2]
theorem rZ{α:Type}{g:aT->Option α}{r:α}(h1:a ρ=some (ds,ρ1))(h2:g ds=some r):De g a ρ=some (r,ρ1):=by unfold De;rw[h1];simp only[h2]
theorem tJ(h1:a ρ=some (ds,ρ1)):cL a ρ=some (.lst ds,ρ1):=by unfold cL;rw[h1]
theorem As(h1:a ρ=some (ds,ρ1))(hl:ds.length<=1000):sN a ρ=some (ds,ρ1):=by unfold sN;rw[h1];simp only[hl,if_true]
theorem uX(h1:a ρ=some (ds,ρ1))(hl:ds.length<=1000):tL a ρ=some (.tup ds,ρ1):=by unfold tL;rw[h1];simp only[hl,if_true]
theorem wZ(h1:e ρ=some (.lst xs,ρ1))(h2:e' ρ1=some (.lst ys,ρ2))(hl:xs.length+ys.length<=1000):uW e e' ρ=some (xs++ys,ρ2):=by unfold uW;rw[h1];simp only[h2,hl,if_true]
theorem vo{g:aT->aT->Option (D×aT)}{i:Nat}{es es0 es':aT}(h0:uq ρ i=some es0)(h1:a ρ=some (ds,ρ1))(h2:uq ρ1 i=some es)(h3:g es ds=some (d,es')):tu g i a ρ=some (d,putAt ρ1 i es'):=by unfold tu;rw[h0];simp only[h1,h2,h3]
theorem ye(h0:uq ρ i=some es0)(h1:e ρ=some (d,ρ1))(h2:uq ρ1 i=some es)(hl:es.length<1000):vX i e ρ=some (.non,putAt ρ1 i (es++[d])):=by unfold vX;rw[h0];simp only[h1,h2,hl,if_true]
theorem ug{s:FA}{g:FG}(h1:s ρ=some (ds,ρ1)):vY s g f ρ=forL g f ds ρ1:=by unfold vY;rw[h1]
theorem zB{k:Nat}{cap:List Nat}{s:FA}{g:FG}{ft:FT}{fe:FE}(h1:s ρ=some (ds,ρ1))(hl:ds.length<=1000):sR k cap s g ft fe ρ=wX k cap g ft fe ds ρ1:=by unfold sR;rw[h1];simp only[hl,if_true]
theorem Wp(hl:ds.length=np)(h:b (L4.stM n es ds)=some (.rt d ρ))(h0:DM ρ=some es'):fnM np n b es ds=some (d,es'):=by unfold fnM;rw[aj hl,h];simp only[h0]
theorem Wq(hl:ds.length=np)(h:b (L4.stM n es ds)=some (.rn xs ρ))(h0:DM ρ=some es'):fnM np n b es ds=some (.lst xs,es'):=by unfold fnM;rw[aj hl,h];simp only[h0]
theorem zC(hl:ds.length=np)(h:b (L4.stE n ds)=some (.rn xs ρ)):fnN np n b ds=some xs:=by unfold fnN;rw[aj hl,h]
theorem sv(hl:ds.length=np)(h:b (L4.stE n ds)=some (.rt d ρ)):fnD np n b ds=some d:=by unfold fnD;rw[aj hl,h]
end
theorem xW(h:BI a=true\/BI b=true):xq (.int a) (.int b)=some (.int (a * b)):=by unfold xq dI;simp only;rw[aj (by simpa using h)]
theorem xJ(h:0<b):vB (.int a) (.int b)=some (.int (a % b)):=by unfold vB dI;simp only;rw[aj (by simpa using h)]
theorem div_pos(h:0<b)(h':b<1073741824):Bq (.int a) (.int b)=some (.int (a / b)):=by unfold Bq dI;simp only;rw[aj (by simp[h,h'])]
theorem JL(h:0<=a)(h':a<2147483647):BI a=true:=by unfold BI;simp only[bq,bG];omega
def Au:D->Option Key
 |.int i=>some (.inl i)
 |.str x=>some (.inr x)
 |_=>none
def uG:List Key->aT->Key->Option D
 |k::ks,d::ds,j=>if k=j then some d else uG ks ds j
 |_,_,_=>none
def S0(ks:List Key)(ds:aT)(k:Key)(d:D):aT:=dj (λk' d'=>if k'=k then d else d') ks ds
def Fo(ks:List Key)(k:Key):Bool:=ks.any λk'=>decide (k'=k)
section
variable{X:Cx}{G:Bg}{H:Hp}
theorem zD(h:Rep G H d v)(e:Au d=some k):v=kV k:=by
 cases d<;>first|cases e|skip
 all_goals (unfold Rep at h;exact h)
theorem Av:∀{ks:List Key} {ds:aT} {xs:bI} (j:Key),sj G H ds xs->ks.length=xs.length->match uG ks ds j with
  |some d=>∃v,wy (ks.zip xs) j=some v/\Rep G H d v
  |none=>wy (ks.zip xs) j=none
 |[],ds,xs,j,r,l=>by cases ds<;>rfl
 |k::ks,ds,[],j,r,l=>by cases l
 |k::ks,[],x::xs,j,r,l=>by unfold sj at r;cases r
 |k::ks,d::ds,x::xs,j,r,l=>by
  unfold sj at r;obtain⟨v,q,e,h1,h2⟩:=r;cases e;unfold uG;by_cases hk:k=j
  ·rw[aj hk];exact⟨x,B7 (p:=(k,x)) hk,h1⟩
  ·rw[ao hk];have ih:=Av (ks:=ks) (ds:=ds) (xs:=xs) j h2 (by simpa using l);have e1:wy ((k::ks).zip (x::xs)) j=wy (ks.zip xs) j:=B8 (p:=(k,x)) hk;rw[e1];exact ih
theorem Iy:∀{ks:List Key} {xs:bI},ks.length=xs.length->((ks.zip xs).any λkv=>decide (kv.1=k))=Fo ks k
 |[],xs,_=>by cases xs<;>rfl
 |k'::ks,[],l=>by cases l
 |k'::ks,x::xs,l=>by unfold Fo;rw[dB,eF,eF,Iy (by simpa using l)];rfl
theorem Mq:∀{ks:List Key} {xs:bI},ks.length=xs.length->(ks.zip xs).map (λkv=>if kv.1=k then (kv.1,v)else kv)=ks.zip (dj (λk' x=>if k'=k then v else x) ks xs)
 |[],xs,_=>by cases xs<;>rfl
 |k'::ks,[],l=>by cases l
 |k'::ks,x::xs,l=>by
  rw[dB,az,Mq (by simpa using l),eU,dB];congr 1;by_cases hk:k'=k
  ·rw[aj hk,aj hk]
  ·rw[ao hk,ao hk]
theorem JM(hd:Rep G H d v):∀{ks:List Key} {ds:aT} {xs:bI},sj G H ds xs->ks.length=xs.length->sj G H (S0 ks ds k d) (dj (λk' x=>if k'=k then v else x) ks xs)
 |[],ds,xs,r,l=>by unfold S0;cases ds<;>cases xs<;>exact tf
 |k'::ks,ds,[],r,l=>by cases l
 |k'::ks,[],x::xs,r,l=>by unfold sj at r;cases r
 |k'::ks,d'::ds,x::xs,r,l=>by
  unfold sj at r;obtain⟨w,q,e,h1,h2⟩:=r;cases e;unfold S0;rw[eU,eU];refine sX ?_ (JM hd h2 (by simpa using l));by_cases hk:k'=k
  ·rw[aj hk,aj hk];exact hd
  ·rw[ao hk,ao hk];exact h1
theorem _root_.L2.DGet.kf(e:H a=some (.frz o (.dK kvs))):DGet H a (kV k) (wy kvs k):=.inl ⟨kvs,k,.inr ⟨o,e⟩,rfl,rfl⟩
def tq:D->D->Option D:=λx y=>match x,Au y with
 |.dic ks ds,some k=>uG ks ds k
 |_,_=>none
theorem S4(hu:X.A.units+1<cLine)(ha:PE X a (tF G f))(hb:PE X b (tF G f'))(hs:VC b:=by exact λ_ _=>rfl):PE X (.Subscript a b pos) (tF G (c2 tq f f')):=PE.weak (RY hu ha hb hs) λσ H Q hh=>by
 sleep 5
 obtain⟨x,y,ρ1,e1,e2,e3⟩:=Ca e;refine⟨F,ρ,H0,x,ρ1,R,e1,λv H1 H1' s1 R1 r1=>⟨F,ρ1,H1,y,ρ',R1,e2,λu H2 H2' s2 R2 r2=>?_⟩⟩;have r1':=Rep.mono s2 _ _ r1;cases x with
 |dic ks ds=>
  unfold tq at e3;cases ek:Au y with
  |none=>simp only[ek]at e3;cases e3
  |some j=>simp only[ek]at e3;unfold Rep at r1';obtain⟨p,ob,xs,rfl,h1,h2,h3⟩:=r1';have lv:=Av (ks:=ks) j h3 h2;rw[e3]at lv;obtain⟨w,w1,w2⟩:=lv;refine⟨p,w,rfl,?_,k w H2 H2' (s1.trans s2) R2 w2⟩;rw[zD r2 ek,<- w1];exact DGet.kf (R2.sub _ _ h1)
 |_=>unfold tq at e3;cases e3
def G9:D->D->Option D:=λx y=>match x,Au y with
 |.dic ks ds,some k=>some ((uG ks ds k).getD .non)
 |_,_=>none
theorem PK(hu:X.A.units+1<cLine)(ha:PE X a (tF G f))(hb:PE X b (tF G f'))(m:M1 X a "get" apos b cpos):PE X (.Call (.Attribute a "get" apos) [b] [] cpos) (tF G (c2 G9 f f')):=PE.weak (OW hu ha hb m) λσ H Q hh=>by
 sleep 5
 obtain⟨x,y,ρ1,e1,e2,e3⟩:=Ca e;cases x with
 |dic ks ds=>
  refine⟨F,ρ,H0,_,ρ1,R,e1,λv H1 H1' s1 R1 r1=>?_⟩;have r1':=r1;unfold Rep at r1';obtain⟨p,ob,xs,rfl,h1,h2,h3⟩:=r1';refine⟨p,rfl,.inl ⟨_,.inr ⟨_,R1.sub _ _ h1⟩⟩,F,ρ1,H1,y,ρ',R1,e2,λu H2 H2' s2 R2 r2=>?_⟩;unfold G9 at e3;cases ek:Au y with
  |none=>simp only[ek]at e3;cases e3
  |some j=>
   simp only[ek]at e3;cases e3;have lv:=Av (ks:=ks) j (sj.mono s2 _ _ h3) h2;refine⟨wy (ks.zip xs) j,?_,?_⟩
   ·rw[zD r2 ek];exact DGet.kf (R2.sub _ _ (s2 _ _ h1))
   ·cases el:uG ks ds j with
    |none=>rw[el]at lv k;rw[lv];exact k _ H2 H2' (s1.trans s2) R2 B9
    |some z=>rw[el]at lv k;obtain⟨w,w1,w2⟩:=lv;rw[w1];exact k _ H2 H2' (s1.trans s2) R2 w2
 |_=>unfold G9 at e3;cases e3
def Cg(i:Nat):FS:=λρ=>some (.nx (ρ.set i (.dk [] [])))
theorem PL{st:Stmt}(h:PS X st (CU K1 (yZ i))):PS X st (tFS G (Cg i)):=PS.weak h λE σ H hh=>by obtain⟨F,ρ,H0,o,R,e,k,k2⟩:=hh;cases e;intro p hp;have R1:=R.newOwn hp (.dK []);refine k _ _ _ (sA.refl _) (R1.set (s:=.dk [] []) ⟨p,[],rfl,sr,R.h0none hp,R.bNone hp,rfl,tf⟩ λ_ a ea j t _ ej to=>?_);cases ea;exact R.apart hp j t ej to
def tW(i:Nat)(fk fv:FE):FS:=λρ=>match fv ρ with
 |some (d,ρ1)=>match ρ1[i]? with
  |some (.dk _ _)=>match fk ρ1 with
   |some (y,ρ2)=>match Au y with
    |some k=>match ρ2[i]? with
     |some (.dk ks ds)=>if ks.length<1000 then if ds.length=ks.length then some (.nx (ρ2.set i (if Fo ks k=true then .dk ks (S0 ks ds k d)else .dk (ks++[k]) (ds++[d]))))else none else none
     |_=>none
    |none=>none
   |none=>none
  |_=>none
 |none=>none
theorem PM{st:Stmt}(h:PS X st (UD (yL i) (tF G fk) (tF G fv))):PS X st (tFS G (tW i fk fv)):=PS.weak h λE σ H hh=>by
 obtain⟨F,ρ,H0,o,R,e,k,k2⟩:=hh;unfold tW at e;rcases sW (f:=fv) (ρ:=ρ)with e1|⟨d,ρ1,e1⟩<;>simp only[e1]at e
 ·cases e
 split at e
 ·rename_i ks0 ds0 ei;rcases sW (f:=fk) (ρ:=ρ1)with e2|⟨y,ρ2,e2⟩<;>simp only[e2]at e
  ·cases e
  cases ek:Au y with
  |none=>simp only[ek]at e;cases e
  |some j=>
   simp only[ek]at e;split at e
   ·rename_i ks ds ei2;split at e
    ·rename_i hl;split at e
     ·rename_i hl2;cases e;refine⟨F,ρ,H0,d,ρ1,R,e1,λv H1 H1' s1 R1 r1=>?_⟩;obtain⟨a0,xs0,a1,_⟩:=R1.sl i _ ei;refine⟨_,vz a1,F,ρ1,H1,y,ρ2,R1,e2,λu H2 H2' s2 R2 r2=>?_⟩;obtain⟨a,xs,b1,b2,b3,b4,b5,b6⟩:=R2.sl i _ ei2;rw[a1]at b1;cases b1;refine⟨a0,upd H2' a0 (.dK (putK (ks.zip xs) j v)),rfl,?_,?_⟩
      ·rw[zD r2 ek];exact OS.k b2 (by rw[fm];exact j4 (Nat.min_le_left _ _) (A6 (by omega)))
      ·have rv:=Rep.mono s2 _ _ r1;refine k _ _ _ (s1.trans s2) (R2.mut ei2 rfl a1 (λH' hH=>?_) ?_)
       ·by_cases hk:Fo ks j=true
        ·rw[aj hk];refine⟨a0,dj (λk' x=>if k'=j then v else x) ks xs,rfl,?_,b3,b4,by rw[jW,b5,eG],JM rv b6 b5⟩;rw[hH];unfold putK;rw[Iy b5,aj hk,Mq b5]
        ·rw[ao hk];refine⟨a0,xs++[v],rfl,?_,b3,b4,by rw[aC,aC,b5];rfl,u6 b6 (sX rv tf)⟩;rw[hH];unfold putK;rw[Iy b5,ao hk,nY b5];rfl
       ·split<;>rfl
     ·cases e
    ·cases e
   ·cases e
 ·cases e
def EA:D->Option D
 |.lst ds=>(Gy ds).map λbs=>.bl (bs.any id)
 |_=>none
theorem NS(hc:X.calm=true)(hK:X.K=G.K:=by rfl):ux X (.builtin "any") (λxs H Q=>∃(p:Addr) (bs:List Bool),xs=[.ref p]/\SqL G.K H p (bs.map V.bl)/\Q (.bl (bs.any id)) H):=by
 rw[<-hK];intro pins s σ H xs us Q I r h;obtain⟨p,bs,rfl,hq,q⟩:=h;obtain⟨u,rfl,ru⟩:=vals1 r;cases ru;obtain⟨its,rv,pl,hz⟩:=I.list hq;have hlt:p<s.heap.objs.size:=by obtain⟨o,ho,_⟩:=pl.isList;exact aQ ho
 have hl:bs.length=its.length:=by have:=rv.length;rw[ah]at this;exact this
 refine call_any_walk (gK pl.isList ⟨s.heap.objs.size,_,_,_,_,_,λi=>(bs[i]?).getD false,rfl,jm (show X.A.in1.handled=none from I.ok.hd hc) _ p (bb hlt) its.toArray,⟨⟨_,bF _ rfl,rfl,rfl⟩,?_⟩,?_,λh' tk hk=>?_⟩)
 ·exact pl.isList.at λo e=>aM _ e
 ·intro i v s' Q' E' hv hQ';have hv':its[i]?=some v:=by simpa using hv
  have hi:i<its.length:=(bW.mp hv').1;have hb:(bs.map V.bl)[i]?=some (.bl (bs[i]'(by omega))):=by simp[show i<bs.length by omega]
  obtain⟨u,hu,ru⟩:=rv.get hb;rw[hv']at hu;cases hu;cases ru;refine c5 ?_;have e:(bs[i]?).getD false=bs[i]'(by omega):=by simp[show i<bs.length by omega]
  rw[<-e];exact hQ'
 ·refine⟨.bl (bs.any id),H,?_,?_,q⟩
  ·exact I.kept (t':=tk) λb o e=>hk b o (by simp;exact bb (aQ e)) (aM _ e)
  ·show Value.bool _=Value.bool _;congr 1;rw[bp,<- hl];rw[cK];simp only[fQ,cB,id];constructor
   ·rintro⟨i,hi,h⟩;exact⟨bs[i],dh hi,by simpa [hi]using h⟩
   ·rintro⟨b,hb,h⟩;obtain⟨i,hi,rfl⟩:=jS.mp hb;exact⟨i,hi,by simpa [hi]using h⟩
theorem Wr:G6 G (λxs H Q=>∃(p:Addr) (bs:List Bool),xs=[.ref p]/\SqL G.K H p (bs.map V.bl)/\Q (.bl (bs.any id)) H) EA:=λx z H0 H v Q e s rx k=>by
 cases x with
 |lst ds=>
  unfold EA at e;simp only at e;cases e1:Gy ds with
  |none=>rw[e1]at e;cases e
  |some bs=>rw[e1]at e;cases e;unfold Rep at rx;obtain⟨a,xs,rfl,h1,h2⟩:=rx;rw[Fm h2 e1]at h1;exact⟨a,bs,rfl,s.seq (SqL.of h1),k _ λ_ _=>vm _⟩
 |_=>cases e
def iS(f:FE):FA:=λρ=>match f ρ with
 |some (.str x,ρ')=>some (x.cps.toList.map λc=>D.str ⟨#[c]⟩,ρ')
 |_=>none
theorem S5(h:PI X tg e (Zq (tF G f))):PI X tg e (tFI G (iS f)):=PI.weak h λσ H R hh=>by
 obtain⟨F,ρ,H0,ds,ρ',R,e,k⟩:=hh;unfold iS at e;split at e
 ·rename_i x ρ1 e1
  sleep 2
  refine⟨x,r,k _ _ _ s R' λi H2 H2' t t'=>⟨λd ed=>?_,λhl=>?_⟩⟩
  ·rw[bB]at ed;cases ec:x.cps.toList[i]? with
   |none=>rw[ec]at ed;cases ed
   |some c=>
    rw[ec]at ed;cases ed;have ec':x.cps[i]?=some c:=by simpa using ec
    refine⟨(Array.getElem?_eq_some_iff.mp ec').1,λz H3 y=>?_⟩;obtain⟨e3,c',hc',rfl⟩:=y;rw[ec']at hc';cases hc';subst e3;exact⟨H2,sA.refl _,t',sA.refl _,λb o e=>.inl e,zu _⟩
  ·show i=x.cps.size;rw[hl,ah];simp
 ·cases e
def DP(f g:FE):FE:=λρ=>match f ρ with
 |some (.tup (x::xs),ρ1)=>match g ρ1 with
  |some (.tup ys,ρ2)=>if xs.length+ys.length<=900 then some (.tup (x::xs++ys),ρ2)else none
  |_=>none
 |_=>none
theorem S6(ha:PE X a (tF G f))(hb:PE X b (tF G g))(hK:X.K=G.K:=by rfl):PE X (.BinOp a .Add b pos) (tF G (DP f g)):=PE.weak (OD RS ha hb) λσ H Q hh=>by
 rw[hK]
 sleep 5
 unfold DP at e;split at e
 ·rename_i x xs ρ1 e1;split at e
  ·rename_i ys ρ2 e2;split at e
   ·rename_i hl;cases e;refine⟨F,ρ,H0,_,ρ1,R,e1,λv H1 H1' s R' r=>⟨F,ρ1,H1,_,_,R',e2,λu H2 H2' s2 R2 r2=>?_⟩⟩;have r':=Rep.mono s2 _ _ r;have r0:=r';unfold Rep at r' r2;obtain⟨a1,xs1,rfl,h1,h2⟩:=r';obtain⟨a2,xs2,rfl,h3,h4⟩:=r2;have l1:=sq h2;have l2:=sq h4;rw[aH]at l1;refine⟨a1,a2,xs1,xs2,rfl,rfl,SqT.mono R2.sub h1,SqT.mono R2.sub h3,(λz=>by rw[z]at l1;cases l1),by rw[<-l1,<- l2];exact yd (by omega),λz=>?_,λ_ p hp=>?_⟩
    ·have ey:ys=[]:=by rw[z]at l2;exact mx.mp l2
     subst ey;rw[bz]at k;exact k _ _ _ (s.trans s2) R2 r0
    ·exact k _ _ _ ((s.trans s2).trans (sG (R2.h0none hp) _)) (R2.newIm hp _) (zt (SqT.of sr) (sj.mono (sG (R2.h0none hp) _) _ _ (u6 h2 h4)))
   ·cases e
  ·cases e
 ·cases e
end
section
variable{X:Cx}{G:Bg}
abbrev FO:=bg->Option (Option Int×bg)
def tFO(G:Bg)(f:FO):TO:=λσ H Q=>∃F ρ H0 d ρ',sL G F σ ρ H0 H/\f ρ=some (d,ρ')/\∀H0' H',sA H0 H0'->sL G F σ ρ' H0' H'->Q d H'
def oNo:FO:=λρ=>some (none,ρ)
def oAt(f:FE):FO:=λρ=>match f ρ with
 |some (.int i,ρ')=>some (some i,ρ')
 |_=>none
theorem PO.weak(h:PO X e t)(w:∀σ H Q,t' σ H Q->t σ H Q):PO X e t':=λpins s σ H Q I hq=>h pins s σ H Q I (w _ _ _ hq)
theorem Ws:PO X none (tFO G oNo):=PO.weak L7 λσ H Q hh=>by
 sleep 5
 cases e;exact k _ _ (sA.refl _) R
theorem Wt(h:PE X e (tF G f)):PO X (some e) (tFO G (oAt f)):=PO.weak (L8 h) λσ H Q hh=>by
 sleep 5
 unfold oAt at e;split at e
 ·rename_i i ρ1 e1
  sleep 2
  exact⟨i,r,k _ _ s R'⟩
 ·cases e
def xK(f:FE)(lo hi:FO):FA:=λρ=>match f ρ with
 |some (d,ρ1)=>match d with
  |.lst ds=>match lo ρ1 with
   |some (l,ρ2)=>match hi ρ2 with
    |some (h,ρ3)=>some (cutD ds l h,ρ3)
    |none=>none
   |none=>none
  |.fzl ds=>match lo ρ1 with
   |some (l,ρ2)=>match hi ρ2 with
    |some (h,ρ3)=>some (cutD ds l h,ρ3)
    |none=>none
   |none=>none
  |_=>none
 |none=>none
theorem Lc{lo:FO}(h:PE X e (tSl (Nq G.K) (tF G f) (tFO G lo) (tFO G hi))):PE X e (tFN G (xK f lo hi)):=PE.weak h λσ H Q hh=>by
 obtain⟨F,ρ,H0,ds,ρ',R,e,k⟩:=hh;unfold xK at e;rcases sW (f:=f) (ρ:=ρ)with e1|⟨d,ρ1,e1⟩<;>simp only[e1]at e
 ·cases e
 have gen:∀(xs:aT),(∀{H1:Hp} {v:V},Rep G H1 d v->∃a ys,v=.ref a/\SqL G.K H1 a ys/\sj G H1 xs ys)->(match lo ρ1 with
   |some (l,ρ2)=>match hi ρ2 with
    |some (h,ρ3)=>some (cutD xs l h,ρ3)
    |none=>none
   |none=>none)=some (ds,ρ')->tSl (Nq G.K) (tF G f) (tFO G lo) (tFO G hi) σ H Q:=λxs rd e=>by
  rcases sW (f:=lo) (ρ:=ρ1)with e2|⟨l,ρ2,e2⟩<;>simp only[e2]at e
  ·cases e
  rcases sW (f:=hi) (ρ:=ρ2)with e3|⟨u,ρ3,e3⟩<;>simp only[e3]at e
  ·cases e
  cases e;refine⟨F,ρ,H0,d,ρ1,R,e1,λv H1 H1' s1 R1 r1=>⟨F,ρ1,H1,l,ρ2,R1,e2,λH2 H2' s2 R2=>⟨F,ρ2,H2,u,_,R2,e3,λH3 H3' s3 R3=>?_⟩⟩⟩;obtain⟨a,ys,rfl,q1,q2⟩:=rd (Rep.mono (s2.trans s3) _ _ r1);exact⟨a,ys,rfl,R3.sub.seq q1,λp hp=>k p _ _ _ (s1.trans (s2.trans s3)) (R3.newOwn hp _) sr (R3.h0none hp) (R3.bNone hp) (R3.apart hp) (Fn q2)⟩
 cases d with
 |lst xs=>exact gen xs (λr=>by unfold Rep at r;obtain⟨a,ys,rfl,q1,q2⟩:=r;exact⟨a,ys,rfl,SqL.of q1,q2⟩) e
 |fzl xs=>exact gen xs (λr=>by unfold Rep at r;exact r) e
 |_=>cases e
def JN:D->D->Option D
 |.str x,.int n=>if 0<=n/\n<=1000/\x.length<=100 then some (.str (ib x n))else none
 |_,_=>none
def BK(neg:Bool):D->D->Option D:=λy x=>match x,Au y with
 |.dic ks ds,some k=>some (.bl (if neg then !(uG ks ds k).isSome else (uG ks ds k).isSome))
 |_,_=>none
theorem PN:∀σ H Q,tF G (c2 (BK false) f f') σ H Q->Zp (tF G f) (tF G f') σ H Q:=λσ H Q hh=>by
 sleep 5
 obtain⟨y,x,ρ1,e1,e2,e3⟩:=Ca e;refine⟨F,ρ,H0,y,ρ1,R,e1,λu H1 H1' s1 R1 r1=>⟨F,ρ1,H1,x,ρ',R1,e2,λv H2 H2' s2 R2 r2=>?_⟩⟩;cases x with
 |dic ks ds=>
  unfold BK at e3;cases ek:Au y with
  |none=>simp only[ek]at e3;cases e3
  |some j=>
   simp only[ek]at e3;cases e3;unfold Rep at r2;obtain⟨p,ob,xs,rfl,h1,h2,h3⟩:=r2;have lv:=Av (ks:=ks) j h3 h2;refine⟨p,wy (ks.zip xs) j,rfl,?_,?_⟩
   ·rw[zD r1 ek];exact DGet.kf (R2.sub _ _ h1)
   ·cases el:uG ks ds j with
    |none=>rw[el]at lv k;rw[lv];exact k _ _ _ (s1.trans s2) R2 (vm _)
    |some z=>rw[el]at lv k;obtain⟨w,w1,_⟩:=lv;rw[w1];exact k _ _ _ (s1.trans s2) R2 (vm _)
 |_=>unfold BK at e3;cases e3
theorem Wu(hu:X.A.units+1<cLine)(ha:PE X a (tF G f))(hb:PE X b (tF G f'))(h1:cX .In b=false:=by rfl):PE X (.Compare a [.In] [b] pos) (tF G (c2 (BK false) f f')):=PE.weak (U3 (OT hu ha hb) h1) PN
end
section
variable{X:Cx}{G:Bg}
def Fp:FE:=λ_=>none
theorem PQ:PE X e (tF G Fp):=λpins s σ H Q I h=>by obtain⟨F,ρ,H0,d,ρ',R,e,_⟩:=h;cases e
def He(f f' f2:FE):FE:=λρ=>match f ρ with
 |some (.dic ks ds,ρ1)=>match f' ρ1 with
  |some (y,ρ2)=>match f2 ρ2 with
   |some (x,ρ3)=>match Au y with
    |some k=>some ((uG ks ds k).getD x,ρ3)
    |none=>none
   |none=>none
  |none=>none
 |_=>none
theorem PR(hu:X.A.units+1<cLine)(ha:PE X a (tF G f))(hb:PE X b (tF G f'))(hc:PE X c (tF G f2))(m:M2 X a "get" apos b c cpos):PE X (.Call (.Attribute a "get" apos) [b,c] [] cpos) (tF G (He f f' f2)):=PE.weak (OX hu ha hb hc m) λσ H Q hh=>by
 sleep 5
 unfold He at e;split at e
 ·rename_i ks ds ρ1 e1;rcases sW (f:=f') (ρ:=ρ1)with e2|⟨y,ρ2,e2⟩<;>simp only[e2]at e
  ·cases e
  rcases sW (f:=f2) (ρ:=ρ2)with e3|⟨x,ρ3,e3⟩<;>simp only[e3]at e
  ·cases e
  cases ek:Au y with
  |none=>simp only[ek]at e;cases e
  |some j=>
   simp only[ek]at e;cases e;refine⟨F,ρ,H0,_,ρ1,R,e1,λv H1 H1' s1 R1 r1=>?_⟩;unfold Rep at r1;obtain⟨p,ob,xs,rfl,h1,h2,h3⟩:=r1;refine⟨p,rfl,.inl ⟨_,.inr ⟨_,R1.sub _ _ h1⟩⟩,F,ρ1,H1,y,ρ2,R1,e2,λu H2 H2' s2 R2 r2=>⟨F,ρ2,H2,x,_,R2,e3,λz H3 H3' s3 R3 r3=>?_⟩⟩;have lv:=Av (ks:=ks) j (sj.mono (s2.trans s3) _ _ h3) h2;refine⟨wy (ks.zip xs) j,?_,?_⟩
   ·rw[zD r2 ek];exact DGet.kf (R3.sub _ _ (s3 _ _ (s2 _ _ h1)))
   ·cases el:uG ks ds j with
    |none=>rw[el]at lv k;rw[lv];exact k _ H3 H3' (s1.trans (s2.trans s3)) R3 r3
    |some w=>rw[el]at lv k;obtain⟨w',w1,w2⟩:=lv;rw[w1];exact k _ H3 H3' (s1.trans (s2.trans s3)) R3 w2
 ·cases e
def Ld(G:Bg)(c:Nat)(t:Ty->Option Bool):Prop:=(∀y b,t y=some b->cY G.K (y.val G) (.ref (G.ca c))=some b)/\∀j b,t (.c j)=some b->NM G.K (G.ca j)
theorem Le(h:Ld G c t)(hK:X.K=G.K:=by rfl):ux X (.builtin "isinstance") (λxs H Q=>∃d x b,xs=[x,(Ty.c c).v G]/\Rep G H d x/\t (tyD d)=some b/\Q (.bl b) H):=
 G7 (X:=X) (.c c) (by rw[hK];exact h.1) (by rw[hK];exact h.2) hK
end
def ddp(acc:List Key)(k:Key):List Key:=if acc.any (λz=>decide (z=k))then acc else acc++[k]
def yz(ks:List Key):List Key:=ks.foldl ddp []
theorem S7(acc:List Key)(k j:Key):(ddp acc k).any (λz=>decide (z=j))=(acc.any (λz=>decide (z=j))||decide (j=k)):=by
 unfold ddp;by_cases h:acc.any (λz=>decide (z=k))=true
 ·rw[aj h];by_cases e:j=k
  ·subst e;rw[h];simp
  ·simp[e]
 ·rw[ao h,List.any_append];by_cases e:j=k
  ·subst e;simp
  ·have hb:¬k=j:=λz=>e z.symm;simp[hb,e]
theorem Mr(acc:List Key)(k:Key):(ddp acc k).length=if acc.any (λz=>decide (z=k))=true then acc.length else acc.length+1:=by unfold ddp;split<;>simp
theorem Hf(ks:List Key)(i:Nat)(h:i<ks.length):yz (ks.take (i+1))=ddp (yz (ks.take i)) ks[i]:=by unfold yz;rw[List.take_add_one,aP h,List.foldl_append];rfl
theorem PU(ks:List Key):(yz ks).length<=ks.length:=by
 have gen:∀(l:List Key) (acc:List Key),(l.foldl ddp acc).length<=acc.length+l.length:=by
  intro l
  induction l with
  |nil=>intro acc;simp
  |cons k l ih=>
   intro acc;rw[nZ,aH];have h1:=ih (ddp acc k);have h2:(ddp acc k).length<=acc.length+1:=by rw[Mr];split<;>omega
   omega
 have:=gen ks [];simpa [yz]using this
theorem set_same{h:Heap}(hS:h.SetOf (sQ prog w) a S n)(e:∀k,S k=S' k)(en:n=n'):h.SetOf (sQ prog w) a S' n':=by obtain rfl:S=S':=funext e;subst en;exact hS
section
variable{prog:aV}{w:aL}{A:aS}{R:gb->ag->Prop}{I:Addr}{fp wr:List Addr}{GG:Array hU->Array hU->Prop}{n:Nat}{PP:Nat->ae->Prop}{SS:Nat->ag->Prop}
theorem PV(W:WalksS prog w A.in1 I fp wr GG n PP SS)(S:Addr)(hSf:S∉fp)(ks:List Key)(hn:ks.length=n)
  (hval:∀i v (h:i<ks.length),PP i v->(sQ prog w).is ks[i] v=true/\v.scannable=true) (hb:n+1<scanBound):∀(k i:Nat) (s:ag),n - i=k->i<=n->SS i s->
   s.heap.SetOf (sQ prog w) S (λj=>(yz (ks.take i)).any (λz=>decide (z=j))) (yz (ks.take i)).length->
   (∀s',Moved (S::wr) GG s s'->s'.heap.SetOf (sQ prog w) S (λj=>(yz ks).any (λz=>decide (z=j))) (yz ks).length->R (.ok (.ret .none)) s')->
   ck (model prog w) A (.builtin "set.update.loop" ⟨[.ref S,.ref I],[]⟩) R s:=by
 have hSw:S∉wr:=λz=>hSf (W.sub _ z);have up:∀b∈wr,b∈S::wr:=λb z=>bo _ z;intro k
 induction k with
 |zero=>
  intro i s hk hi hst hS hR;obtain rfl:i=n:=by omega
  refine dE gx ?_;rw[dY dX _];show ai _ A.in1 (pyNext (.ref I)>>=_) _ _ s;refine aq (W.done s _ _ hst λs' hm=>?_);show ai _ A.in1 (ret Value.none) _ _ s';rw[mC (by omega)]at hS;refine aB (hR s' (hm.mono up) ?_);obtain⟨o,es,ep,t,ho,more⟩:=hS;exact⟨o,es,ep,t,hm.heap S _ hSw ho,more⟩
 |succ k ih=>
  intro i s hk hi hst hS hR;have hlt:i<n:=by omega
  have hlk:i<ks.length:=by omega
  refine dE gx ?_;rw[dY dX _];show ai _ A.in1 (pyNext (.ref I)>>=_) _ _ s;refine aq (W.item i s _ _ hlt hst λv s' hP hst' hm=>?_);obtain⟨kv,sc⟩:=hval i v hlk hP;have hS':s'.heap.SetOf (sQ prog w) S (λj=>(yz (ks.take i)).any (λz=>decide (z=j))) (yz (ks.take i)).length:=by obtain⟨o,es,ep,t,ho,more⟩:=hS;exact⟨o,es,ep,t,hm.heap S _ hSw ho,more⟩
  show ai _ A.in1 (holding [v] (setAdd S v)>>=_) _ _ s';refine aq (cM ?_);unfold setAdd;refine cM ?_;refine aq ((sQ prog w).pyHash (k:=ks[i]) kv ?_);have room:(yz (ks.take i)).length+1<scanBound:=by have:=PU (ks.take i);rw[bw]at this;omega
  refine wpAny_setAddHashed_of (knd:=sQ prog w) (s:={ s' with toks:=s'.toks+1 }) kv sc hS' room λh' hsb hS2=>?_;have hSi:h'.SetOf (sQ prog w) S (λj=>(yz (ks.take (i+1))).any (λz=>decide (z=j))) (yz (ks.take (i+1))).length:=
   set_same hS2 (λj=>by rw[Hf ks i hlk,S7]) (by rw[Hf ks i hlk,Mr])
  refine aB ⟨fU dX _,ih (i+1) _ (by omega) hlt (W.frame _ s' _ _ hst' (fw _) λb z o e=>?_) hSi λs'' hm'' hS''=>?_⟩
  ·rw[hsb.2 b (λy:b=S=>hSf (by rw[<-y];exact z))];exact e
  ·refine hR s'' (kQ W.gtrans ((hm.mono up).then_heap (fw _) λb o z e=>?_) hm'') hS'';rw[hsb.2 b (λy:b=S=>z (by rw[y];exact aY))];exact e
end
theorem S8(l:Addr)(us:Array ae)(m:Nat)(b:Addr)(o:Obj)(ws:Array ae)(m2:Nat)(hc:o.cls=.type "tuple")(hd:o.data=.seq ws m2)(z0:¬(!us.isEmpty&&gv (us.size+ws.size))=true)(z1:us.size<=aJ)(z2:us.size+ws.size<=aJ+1):
  Meets (eK.«list.extend» ⟨[.ref l,.ref b],[]⟩) (λ_ R s=>s.heap.get? l=some { cls:=.type "list", data:=.seq us m }/\s.heap.get? b=some o/\R (.ok (.ret Value.none)) { s with heap:=s.heap.update l (c8 λx=>x++ws),toks:=s.toks }):=by
 obtain⟨c,dd,data,sl⟩:=o;cases hc;cases hd;refine .of_wp λprog w A R s h=>?_;obtain⟨hp,g,d,tk,os⟩:=s;obtain⟨hl,hb,h⟩:=h;have f2:=mm;have f3:=AutoSeq1.sub_list_list;have f4:=AutoSeq1.sub_tuple_list;have f5:=AutoSeq1.sub_list_tuple;have z3:(us++ws).size<=aJ+1:=Array.size_append (xs:=us) (ys:=ws)▸z2
 wp_walk using (kg hl rfl (hz:=z1) (_hz':=z3)),mq hl,mq hb
 exact⟨_,rfl,h⟩
section
variable{X:Cx}{G:Bg}
def JO(K:ay):V->bI->Hp->VK->Prop:=λx vs H Q=>∃l b xs zs,x=.ref l/\vs=[.ref b]/\H l=some (.lst xs)/\SqT K H b zs/\xs.length+zs.length<=aJ/\Q .non (upd H l (.lst (xs++zs)))
theorem Lf:MtM X "list.extend" (JO X.K):=by
 intro pins s σ H x vs v us Q I rx rv h;obtain⟨l,b,xs,zs,rfl,rfl,hH,hB,hz,q⟩:=h;cases rx;obtain⟨u,rfl,ru⟩:=rv.one;cases ru;obtain⟨z,its,n,r,hl,e⟩:=I.lstM hH;obtain⟨its2,r2,⟨o,e2,hc,n2,hd⟩,hz2⟩:=I.tuple hB;have hl2:=r2.length;have hsz:its.toArray.size+its2.toArray.size<=aJ:=by rw[bp,bp];omega
 have hlong:¬(!its.toArray.isEmpty&&gv (its.toArray.size+its2.toArray.size))=true:=by rw[Jp hsz,ox];exact bA
 refine hJ j3 ⟨_,e,rfl⟩ mP (mK _ _)
  (S8 l its.toArray n b o its2.toArray n2 hc hd hlong (by rw[bp];omega) (by omega)) ⟨e,e2,?_⟩
 refine⟨.non,_,I.lset (its':=its++its2) hH e (by simp) (r.append r2) ?_,rfl,q⟩;rw[aC];omega
def DQ(i:Nat)(f:FE):FE:=λρ=>match uq ρ i with
 |some _=>match f ρ with
  |some (.tup es,ρ1)=>match uq ρ1 i with
   |some ds=>if ds.length+es.length<=1000 then some (.non,putAt ρ1 i (ds++es))else none
   |none=>none
  |_=>none
 |none=>none
theorem Lg(h:PE X e (tBM G.K "list" (JO G.K) (yL i) (EU (tF G f) Jl))):PE X e (tF G (DQ i f)):=PE.weak h λσ H Q hh=>by
 sleep 5
 unfold DQ at e;cases e0:uq ρ i with
 |none=>simp only[e0]at e;cases e
 |some ds0=>
  simp only[e0]at e;rcases sW (f:=f) (ρ:=ρ)with e1|⟨x,ρ1,e1⟩<;>simp only[e1]at e
  ·cases e
  ·cases x with
   |tup es=>
    cases e2:uq ρ1 i with
    |none=>simp only[e2]at e;cases e
    |some ds=>
     simp only[e2]at e;split at e
     ·rename_i hl;cases e;obtain⟨a,xs,s1,s2,s3,_⟩:=uJ R e0;refine⟨.ref a,s1,.inl ⟨rfl,xs,SqL.of s2⟩,F,ρ,H0,_,ρ1,R,e1,λv H1 H1' s R' rs=>?_⟩;unfold Rep at rs;obtain⟨p,ys,rfl,hp,rs⟩:=rs;obtain⟨a',xs',t1,t2,t3,t4⟩:=uJ R' e2;rw[s1]at t1;cases t1;refine⟨a,p,xs',ys,rfl,rfl,t2,SqT.mono R'.sub hp,?_,k _ _ _ s (t4 _ _ (u6 t3 rs)) B9⟩;rw[<-sq t3,<- sq rs];exact yd hl
     ·cases e
   |_=>cases e
end
abbrev one(j:Nat)(led pl:Bool):lq:=⟨7,#[j],#[],0,led,0,pl⟩
abbrev prb(i q:Nat):jc:=⟨i,0,i,q,none⟩
section
variable{j i q:Nat}{led pl:Bool}{h h1:Int}
theorem y9(i:Nat):(one j led pl).slot i=if j=i then .live 0 else .empty:=by
 by_cases z:j<i
 ·have:j≠i:=by omega
  simp[oU,gY,gR,hE,z,this]
 ·simp[oU,gY,gR,hE,z]
theorem Z4(i:Nat):kh 7 i - i=0:=by unfold kh;split<;>omega
theorem Ms:(one j led pl).advance (prb i q)=prb ((i * 5+1+q / 32) % 8) (q / 32):=by unfold SetTable.advance SetTable.leap;simp[Z4]
theorem Z5(e:F 0=h1):∀(f:Nat) (p:jc),dg (one j led pl) F h f p=dg (one j led pl) (λ_=>h1) h f p
 |0,p=>rfl
 |f+1,p=>by
  unfold dg;rw[y9];by_cases z:j=p.j
  ·rw[aj z];dsimp only;rw[e,Z5 e f]
  ·rw[ao z]
theorem Mt(hh:h1≠h):∀(n f i q:Nat),q<32 ^ n->n+2<=f->∃j',j'≠j/\dg (one j led pl) (λ_=>h1) h f (prb i q)=some (.empty j' none)
 |n,0,i,q,_,hf=>au hf (by omega)
 |n,f+1,i,q,hq,hf=>by
  unfold dg;rw[y9];by_cases z:j=i
  ·rw[aj z];dsimp only;rw[ao (by simpa using hh),Ms];cases n with
   |zero=>
    obtain⟨f,rfl⟩:∃g,f=g+1:=⟨f - 1,by omega⟩;unfold dg;rw[y9];have q0:q=0:=by simpa using hq
    have:¬j=(i * 5+1+q / 32) % 8:=by subst z q0;omega
    rw[ao this];exact⟨_,λe=>this e.symm,rfl⟩
   |succ n=>exact Mt hh n f _ _ (by rw[oZ]at hq;omega) (by omega)
  ·rw[ao z];exact⟨_,λe=>z e.symm,rfl⟩
theorem NT(hn:n<=13)(hq:q<32 ^ n):(∃j',j'≠j/\(one j led pl).probe (λ_=>h1) h (prb i q)=some (.empty j' none))\/(h1=h/\j=i/\(one j led pl).probe (λ_=>h1) h (prb i q)=some (.candidate j 0 (prb ((i * 5+1+q / 32) % 8) (q / 32)))):=by
 by_cases hh:h1=h
 ·by_cases z:j=i
  ·right;refine⟨hh,z,?_⟩;subst z hh;show dg _ _ _ (219+1) _=_;unfold dg;rw[y9,aj rfl];dsimp only;rw[aj (by simp),Ms]
  ·left;refine⟨i,λe=>z e.symm,?_⟩;show dg _ _ _ (219+1) _=_;unfold dg;rw[y9,ao z]
 ·exact .inl (Mt hh n 220 i q hq (by omega))
end
section
variable{prog:aV}{w:aL}{A:aS}{E:ae->ag->Prop}{s:ag}
abbrev TK(prog:aV)(w:aL):=IsTupleKey (sQ prog w)
theorem cls_val(n:Nat)(h:fT v=true):gS n v=pure false:=by
 cases v with
 |ref a=>simp[fT]at h
 |_=>first|rfl|simp[gS]|(unfold gS;rfl)
theorem Mu(hk:TK prog w s.heap ks a)(h:Q false s):ai (model prog w) A (gS 8 (.ref a)) Q E s:=by
 have hT:=hk.typeIs;obtain⟨o,items,n,ho,_,hd,hi⟩:=hk;unfold gS;refine aq (jg hT ?_);show ai _ _ (pure true>>=_) _ _ s;refine aq (aB ?_);simp only[Bool.not_true,eY,if_false];refine aq (oA ho hd ?_);refine aq ?_;show ai _ _ (forIn items _ _) _ _ s;rw[<-m5];refine iW _ (λrest r s'=>r.1=none/\s'=s/\∀v∈rest,fT v=true) _ ?_ ?_ _ _ ⟨rfl,rfl,hi.byValue⟩
 ·rintro v rest r s' ⟨hr,rfl,hall⟩;rw[cls_val _ (hall v aY)];refine aq (aB ?_);simp only[eY,if_false];exact aB ⟨rfl,rfl,λu hu'=>hall u (bo _ hu')⟩
 ·rintro⟨r1,r2⟩ s' ⟨hr,rfl,_⟩;simp only at hr;subst hr;exact aB h
theorem S9(n:Nat)(h:fT v=true):∃b,hashByValue n v=pure b:=by
 cases v with
 |ref a=>simp[fT]at h
 |_=>cases n<;>first|exact⟨_,rfl⟩|(unfold hashByValue;exact⟨_,rfl⟩)
theorem Ta(hk:TK prog w s.heap ks a)(h:∀b,Q b s):ai (model prog w) A (hashByValue 8 (.ref a)) Q E s:=by
 have hT:=hk.typeIs;obtain⟨o,items,n,ho,_,hd,hi⟩:=hk;unfold hashByValue;refine aq (ka hT F.slot_tuple_hash.lookup ?_);show ai _ _ (seqItems? (.ref a)>>=_) _ _ s;refine aq (oA ho hd ?_);refine aq ?_;show ai _ _ (forIn items _ _) _ _ s;rw[<-m5];refine iW _ (λrest r s'=>s'=s/\∀v∈rest,fT v=true) _ ?_ ?_ _ _ ⟨rfl,hi.byValue⟩
 ·rintro v rest r s' ⟨rfl,hall⟩;obtain⟨b,hb⟩:=S9 7 (hall v aY);rw[hb];refine aq (aB ?_);cases b
  ·exact aB (aB (h _))
  ·exact aB ⟨rfl,λu hu'=>hall u (bo _ hu')⟩
 ·rintro⟨r1,r2⟩ s' ⟨rfl,_⟩;cases r1 with
  |none=>exact aB (h _)
  |some b=>exact aB (h _)
theorem Tb{a1:Addr}(h1:TK prog w s.heap k1 a1)(h2:TK prog w s.heap k2 a2)(h:Q false s):ai (model prog w) A (searchCouldBeSeen (.ref a2) [.ref a1]) Q E s:=by
 unfold searchCouldBeSeen;refine aq ?_;show ai _ _ (forIn [Value.ref a1] _ _) _ _ s;refine iW _ (λrest r s'=>r=(none,())/\s'=s/\∀v∈rest,v=.ref a1) _ ?_ ?_ _ _ ⟨rfl,rfl,λv hv=>by simpa using hv⟩
 ·rintro v rest r s' ⟨rfl,rfl,hall⟩;obtain rfl:=hall v aY;have go:∀v∈rest,v=Value.ref a1:=λu hu'=>hall u (bo _ hu');dsimp only;split
  ·exact aB ⟨rfl,rfl,go⟩
  ·refine aq (mG h2 ?_);refine aq (mG h1 ?_);refine aq (Mu h2 ?_);refine aq (Mu h1 ?_);exact aB ⟨rfl,rfl,go⟩
 ·rintro r s' ⟨rfl,rfl,_⟩;exact aB h
theorem BL{a1:Addr}(hu:A.units<cLine)(t1:TK prog w s.heap k1 a1)(t2:TK prog w s.heap k2 a2)(ne:k1≠k2)
  (ho:s.heap.get? S=some o) (hd:o.data=.set #[(h1,.ref a1)] ep (one j led pl)) (hQ:∀j',j'≠j->Q (.free j' false) s):∀(fuel n i q:Nat) (st:Option jc),n<=13->1<=fuel->(i=j->n+2<=fuel)->q<32 ^ n->st.getD ((one j led pl).probeStart h)=prb i q->ai (model prog w) A (setSearchFrom S (.ref a2) h true fuel st) Q E s
 |0,n,i,q,st,_,hf,_,_,_=>au hf (by omega)
 |fuel+1,n,i,q,st,hn,_,hf,hq,hst=>by
  unfold setSearchFrom;refine aq (gU ho hd rfl ?_);dsimp only;rw[ao (by simp[nR])];have P:=NT (led:=led) (pl:=pl) (j:=j) (i:=i) (h:=h) (h1:=h1) hn hq;unfold SetTable.probe at P ⊢;rw[hst,Z5 (h1:=h1) rfl];rcases P with ⟨j',hj,e⟩|⟨e1,e2,e⟩
  ·rw[e];exact aB (hQ j' hj)
  ·rw[e];dsimp only;rw[show pF (λx:Int×ae=>x.snd) (Array.filter (λx=>x.fst==h) #[(h1,Value.ref a1)]).toList=[.ref a1] by simp[e1]];have hf2:=hf e2.symm;have si:∀led,(one j led pl).sameMemory 0 7=some true:=λ_=>rfl;cases led;refine aq (Tb t1 t2 ?_)
   all_goals
    refine aq (cM (wpAny_eqBool_tuple hu t1 t2 ?_));refine aq (gU ho hd rfl ?_);rw[aO ne];dsimp only;rw[ao (by decide),si];dsimp only;rw[aj rfl,y9,aj rfl];refine aq (wpAny_isSame_ref_self ?_);refine aq (aB ?_);cases n with
    |zero=>
     have q0:q=0:=by simpa using hq
     exact BL hu t1 t2 ne ho hd hQ fuel 0 _ _ _ hn (by omega) (λe=>au e (by subst e2 q0;omega)) (by rw[q0];decide) rfl
    |succ n=>exact BL hu t1 t2 ne ho hd hQ fuel n _ _ _ (by omega) (by omega) (λ_=>by omega) (by rw[oZ]at hq;omega) rfl
theorem Mv{S a2:Addr}{ks:List Key}{o:Obj}{es:Array (Int×ae)}{ep:Nat}{t:lq}{h:Int}{P:Nat->Prop}{Q:Bool->ag->Prop}(ho:s.heap.get? S=some o)(hd:o.data=.set es ep t)(hf:t.fits es.size=true)(t2:TK prog w s.heap ks a2)
  (hs:∀Q:SetFound->ag->Prop,(∀j',P j'->Q (.free j' false) s)->ai (model prog w) A (setSearch S (.ref a2) h true) Q E s) (hT:∀j',P j'->(t.put j').1.tooFull=false) (hz:∀j',P j'->(eZ es (t.put j').2 (h,Value.ref a2)).size<=aJ)
  (hQ:∀j' pl,P j'->Q true { s with heap:=s.heap.update S (la (eZ es (t.put j').2 (h,.ref a2)) { (t.put j').1 with plain:=pl }) }):ai (model prog w) A (setAddHashed S (.ref a2) h) Q E s:=by
 unfold setAddHashed setAddHashedIn;refine cM (aq (gU ho hd hf ?_));dsimp only;rw[ao (by simp[byScan,Value.scannable])];refine aq (hs _ λj' hj=>?_);dsimp only;refine aq (gU ho hd hf ?_);dsimp only;have fin:∀b:Bool,ai (model prog w) A (do
   storeSet S (eZ es (t.put j').2 (h,.ref a2)) (if b=true then (t.put j').1 else { (t.put j').1 with plain:=false })
   if (!false&&(if b=true then (t.put j').1 else { (t.put j').1 with plain:=false }).tooFull)=true then do setRelay S (SetTable.grown (es.size+1));pure true else pure true) Q E s:=λb=>by
  refine aq (wpAny_storeSet_of ho hd ?_ (hz j' hj));have e:(if b=true then (t.put j').1 else { (t.put j').1 with plain:=false })={ (t.put j').1 with plain:=if b=true then (t.put j').1.plain else false }:=by cases b<;>rfl
  rw[e,ao (by have:=hT j' hj;unfold nS kx at this ⊢;rw[this];decide)];exact aB (hQ _ _ hj)
 split
 ·exact aq (Ta t2 λb=>fin b)
 ·exact aq (aB (fin true))
end
section
variable{j i q:Nat}{led pl:Bool}{h h1:Int}
theorem Fq(i:Nat):(jd 0 0 led).put i=(one i led true,0):=by simp[kI,jd,gY,gR,hE,eZ]
theorem EJ{α:Type}(x y:α):((one j led pl).put i).1.place.size=2/\((one j led pl).put i).1.dummies=#[]/\((one j led pl).put i).1.mask=7/\(eZ #[x] ((one j led pl).put i).2 y).size=2:=by
 by_cases z:j<i
 ·simp[kI,gY,gR,hE,eZ,z]
 ·simp[kI,gY,gR,hE,eZ,z]
end
section
variable{prog:aV}{w:aL}{A:aS}{E:ae->ag->Prop}{s:ag}
theorem PX{hp:Heap}(ho:hp.get? S=some o)(hd:o.data=.set es ep t):(hp.update S (la es' t')).get? S=some { o with data:=.set es' (ep+1) t' }:=by have:=jO (la es' t') ho (by rw[putSet_of es' t' hd];rfl);rw[putSet_of es' t' hd]at this;exact this
theorem NU{S a:Addr}{ks:List Key}{o:Obj}{ep:Nat}{led:Bool}{h:Int}{Q:Bool->ag->Prop}(ho:s.heap.get? S=some o)(hd:o.data=.set #[] ep (.fresh 0 0 led))(t2:TK prog w s.heap ks a)
  (hQ:∀h' j pl,fW S s.heap h'->h'.get? S=some { o with data:=.set #[(h,.ref a)] (ep+1) (one j led pl) }->Q true { s with heap:=h' }):ai (model prog w) A (setAddHashed S (.ref a) h) Q E s:=by
 refine Mv (P:=λ_=>True) ho hd rfl t2 (λQ hq=>?_) (λj' _=>by rw[Fq];rfl) (λj' _=>by rw[Fq,bR];exact fq (by decide:1<_)) λj' pl _=>hQ _ j' pl (mR ..) ?_
 ·unfold setSearch setSearchFrom;refine aq (gU ho hd rfl ?_);dsimp only;rw[ao (by simp[nR,jd]),show ∀F p,(jd 0 0 led).probe F h p=some (.empty p.j p.dummy) from λ_ _=>rfl];exact aB (hq _ trivial)
 ·rw[PX ho hd,Fq];rfl
theorem Lh{a1:Addr}(hu:A.units<cLine)(t1:TK prog w s.heap k1 a1)(t2:TK prog w s.heap k2 a2)(ne:k1≠k2)
  (ho:s.heap.get? S=some o) (hd:o.data=.set #[(h1,.ref a1)] ep (one j led pl))
  (hQ:∀h' es t,fW S s.heap h'->h'.get? S=some { o with data:=.set es (ep+1) t }->es.size=2->t.fits 2=true->Q true { s with heap:=h' }):ai (model prog w) A (setAddHashed S (.ref a2) h) Q E s:=by
 refine Mv (P:=λj'=>j'≠j) ho hd rfl t2 (λQ hq=>?_) (λj' _=>?_) (λj' _=>by rw[(EJ _ _).2.2.2,bR];decide) λj' pl' _=>hQ _ _ _ (mR ..) (PX ho hd) (EJ _ _).2.2.2 ?_
 ·have hb:je h<32 ^ 13:=by unfold je;omega
  exact BL hu t1 t2 ne ho hd hq 100000 13 (je h % 8) (je h) none (by omega) (by omega) (λ_=>by omega) hb (by show SetTable.Probe.mk _ _ _ _ _=_;rw[Z4])
 ·obtain⟨a,b,c,_⟩:=EJ (j:=j) (i:=j') (led:=led) (pl:=pl) 0 0;unfold nS kx;rw[a,b,c];rfl
 ·obtain⟨a,b,c,_⟩:=EJ (j:=j) (i:=j') (led:=led) (pl:=pl) 0 0;unfold SetTable.fits kx;dsimp only;rw[a,b,c];rfl
end
section
variable{prog:aV}{w:aL}{A:aS}{R:gb->ag->Prop}{I:Addr}{fp wr:List Addr}{GG:Array hU->Array hU->Prop}{PP:Nat->ae->Prop}{SS:Nat->ag->Prop}
theorem TK.kept{h':Heap}(t:TK prog w h ks a)(e:∀o,h.get? a=some o->h'.get? a=some o):TK prog w h' ks a:=by obtain⟨o,its,n,ho,m⟩:=t;exact⟨o,its,n,e o ho,m⟩
def Wv(h:Heap)(S:Addr)(n:Nat):Prop:=∃o es ep t,h.get? S=some o/\o.ExactSet/\o.data=.set es ep t/\es.size<scanBound/\t.fits es.size=true/\es.size=n
theorem NV(W:WalksS prog w A.in1 I fp wr GG 2 PP SS){a1:Addr}(hSf:S∉fp)(ne:k1≠k2)(n1:a1∉S::wr)(n2:a2∉S::wr)(p1:∀v,PP 0 v->v=.ref a1)(p2:∀v,PP 1 v->v=.ref a2)(hu:A.in1.units<cLine)
  (hst:SS 0 s) (t1:TK prog w s.heap k1 a1) (t2:TK prog w s.heap k2 a2) (ho:s.heap.get? S=some o) (hx:o.ExactSet) (hd:o.data=.set #[] ep (.fresh 0 0 led)) (hR:∀s',Moved (S::wr) GG s s'->Wv s'.heap S 2->R (.ok (.ret .none)) s'):
   ck (model prog w) A (.builtin "set.update.loop" ⟨[.ref S,.ref I],[]⟩) R s:=by
 have hSw:S∉wr:=λz=>hSf (W.sub _ z);have up:∀b∈wr,b∈S::wr:=λb z=>bo _ z;have q1:a1∉wr:=λz=>n1 (up _ z);have q2:a2∉wr:=λz=>n2 (up _ z);have e1:a1≠S:=λz=>n1 (by rw[z];exact aY);have e2:a2≠S:=λz=>n2 (by rw[z];exact aY);refine dE gx ?_;rw[dY dX _];show ai _ A.in1 (pyNext (.ref I)>>=_) _ _ s;refine aq (W.item 0 s _ _ (by decide) hst λv s1 hP st1 m1=>?_);obtain rfl:=p1 v hP;show ai _ A.in1 (holding _ (setAdd S _)>>=_) _ _ s1;refine aq (cM ?_);unfold setAdd;refine cM ?_;have u1:TK prog w s1.heap k1 a1:=t1.kept λo=>m1.heap a1 o q1;have u2:TK prog w s1.heap k2 a2:=t2.kept λo=>m1.heap a2 o q2;refine aq (m6 hu u1 ?_);refine NU (m1.heap S _ hSw ho) hd u1 λh' j pl hb hg=>?_;refine aB ⟨fU dX _,?_⟩;have st1':=W.frame (0+1) s1 h' _ st1 (gW _ (k1.length+1)) λb z o e=>by rw[hb.2 b (λy:b=S=>hSf (by rw[<-y];exact z))];exact e
 have m1':Moved (S::wr) GG s { s1 with heap:=h',toks:=s1.toks+(k1.length+1) }:=(m1.mono up).then_heap (gW _ _) λb o z e=>by rw[hb.2 b (λy:b=S=>z (by rw[y];exact aY))];exact e
 have v1:TK prog w h' k1 a1:=u1.kept λo e=>by rw[hb.2 a1 e1];exact e
 have v2:TK prog w h' k2 a2:=u2.kept λo e=>by rw[hb.2 a2 e2];exact e
 refine dE gx ?_;rw[dY dX _];show ai _ A.in1 (pyNext (.ref I)>>=_) _ _ _;refine aq (W.item 1 _ _ _ (by decide) st1' λv s2 hP st2 m2=>?_);obtain rfl:=p2 v hP;show ai _ A.in1 (holding _ (setAdd S _)>>=_) _ _ s2;refine aq (cM ?_);unfold setAdd;refine cM ?_;have w1:TK prog w s2.heap k1 a1:=v1.kept λo=>m2.heap a1 o q1;have w2:TK prog w s2.heap k2 a2:=v2.kept λo=>m2.heap a2 o q2;refine aq (m6 hu w2 ?_);refine Lh hu w1 w2 ne (m2.heap S _ hSw hg) rfl λh2 es t hb2 hg2 z2 f2=>?_;refine aB ⟨fU dX _,?_⟩;have st2':=W.frame (1+1) s2 h2 _ st2 (gW _ (k2.length+1)) λb z o e=>by rw[hb2.2 b (λy:b=S=>hSf (by rw[<-y];exact z))];exact e
 have m2':=kQ W.gtrans m1' ((m2.mono up).then_heap (tk:=s2.toks+(k2.length+1)) (gW _ _) λb o z e=>by rw[hb2.2 b (λy:b=S=>z (by rw[y];exact aY))];exact e);refine dE gx ?_;rw[dY dX _];show ai _ A.in1 (pyNext (.ref I)>>=_) _ _ _;refine aq (W.done _ _ _ st2' λs3 m3=>?_);show ai _ A.in1 (ret Value.none) _ _ s3;refine aB (hR s3 (kQ W.gtrans m2' (m3.mono up)) ?_);exact⟨_,es,_,t,m3.heap S _ hSw hg2,hx,rfl,by rw[z2];decide,by rw[z2];exact f2,z2⟩
end
theorem sub_tuple_set:isSubtype (.type "tuple") (.type "set")=pure false:=by rw[kl];kernel_rfl
theorem sub_tuple_frozenset:isSubtype (.type "tuple") (.type "frozenset")=pure false:=by rw[kl];kernel_rfl
section
variable{prog:aV}{w:aL}{A:aS}{E:ae->ag->Prop}{s:ag}{Q:ae->ag->Prop}
abbrev Aj(led:Bool):Obj:={ cls:=.type "set", dict:=none,data:=.set #[] 0 (.fresh 0 0 led) }
abbrev inK(ks:List Key):Key->Bool:=λj=>(yz ks).any (λz=>decide (z=j))
structure Z6(prog:aV)(w:aL)(h:Heap)(a:Addr)(items:Array ae)(ks:List Key):Prop where
 len:ks.length=items.size
 key:∀i v (hi:i<ks.length),items[i]?=some v->(sQ prog w).is ks[i] v=true/\v.scannable=true
 bnd:items.size+1<scanBound
def Tc(s:ag)(PS:Heap->Prop)(E:ae->ag->Prop):gb->ag->Prop:=
 wants (λr s2=>r=.none/\∃h2 k2,s2={ s with heap:=h2,toks:=k2 }/\PS h2/\∀b o,b<s.heap.objs.size->s.heap.get? b=some o->h2.get? b=some o) E
theorem JP(K:Z6 prog w s.heap ax items ks)(hlt:ax<s.heap.objs.size)
  (W:Walks prog w A.in1 (s.heap.objs.size+1) [s.heap.objs.size+1,ax] [s.heap.objs.size+1] items.size (λi v=>items[i]?=some v) SS) (st:SS 0 ((s.heap.push (Aj led)).push itO))
  (hR:∀h2 k2,h2.SetOf (sQ prog w) s.heap.objs.size (inK ks) (yz ks).length->(∀b o,b<s.heap.objs.size->s.heap.get? b=some o->h2.get? b=some o)->R (.ok (.ret .none)) { s with heap:=h2,toks:=k2 }) (tk:Nat):
  ck (model prog w) A (.builtin "set.update.loop" ⟨[.ref s.heap.objs.size,.ref (s.heap.objs.size+1)],[]⟩) R { s with heap:=(s.heap.push (Aj led)).push itO,toks:=tk }:=by
 have notin:s.heap.objs.size∉[s.heap.objs.size+1,ax]:=by
  intro z;rcases aN.mp z with z|z
  ·exact au z (bb (eh _))
  ·exact au (aR.mp z) (fX hlt)
 have e0:((s.heap.push (Aj led)).push itO).get? s.heap.objs.size=some (Aj led):=aM _ (bF _ rfl);refine PV W.toS s.heap.objs.size notin ks K.len (λi v hi hv=>K.key i v hi hv) K.bnd (items.size - 0) 0 _ (by omega) (cu _) st ?_ λs2 mv S2=>?_
 ·exact⟨_,#[],0,_,e0,⟨rfl,rfl,rfl⟩,rfl,λe he=>by simp at he,λk=>by simp[yz],by unfold scanBound;decide,by rfl,rfl⟩
 ·obtain⟨h2,g2,d2,k2,o2⟩:=s2;have eg:g2=s.gens:=mv.gens;have ed:d2=s.drawn:=mv.drawn;have eo:o2=s.os:=mv.os;subst eg ed eo;refine hR h2 k2 S2 λb o hb e=>mv.heap b o (λz=>?_) (aM _ (aM _ e));rcases aN.mp z with z|z
  ·exact au z (bb hb)
  ·exact au (aR.mp z) (bb (df hb))
theorem Li(a:ae)(h:Q₁ (.ref s.heap.objs.size) { s with heap:=s.heap.push (Aj (!w.params.followText "set-order")) }):
  ck (model prog w) A (.call (.builtin "set.__new__") ⟨[.type "set", a],[]⟩) (wants Q₁ E) s:=by
 refine n4 ?_;show ai _ A.in1 (do checkBuiltinCall "set.__new__" ⟨[.type "set", a],[]⟩;again (.builtin "set.__new__" ⟨[.type "set", a],[]⟩)) _ _ s;refine aq (wpAny_of_eq (F.newCall_set_1 a) (aB ⟨fU n8 _,dE F.entry_set_new ?_⟩));rw[dY n8 _];unfold eK.«set.__new__» qf;have hsub:=sub_set_self;obtain⟨hp,g,d,tk,os⟩:=s;dsimp only
 wp_walk
 refine wpAny_askSetting (aB ?_);dsimp only;simp only[newObj];refine aq (wpAny_alloc (aB ?_));exact aB h
theorem Fs{PS:Heap->Prop}(ho:s.heap.get? ax=some o)(hc:o.cls=.type T)
  (u1:isSubtype (.type T) (.type "set")=pure false) (u2:isSubtype (.type T) (.type "frozenset")=pure false) (u3:(Value.type T==Value.type "dict")=false)
  (itr:∀(A:aS) (Q:ae->ag->Prop) (E:ae->ag->Prop) (s1:ag),s1.heap.get? ax=some o->Q (.ref s1.heap.objs.size) { s1 with heap:=s1.heap.push itO }->ai (model prog w) A (pyIter (.ref ax)) Q E s1)
  (fil:∀tk (R:gb->ag->Prop),(∀h2 k2,PS h2->(∀b o,b<s.heap.objs.size->s.heap.get? b=some o->h2.get? b=some o)->R (.ok (.ret .none)) { s with heap:=h2,toks:=k2 })->
   ck (model prog w) A.in1.in1 (.builtin "set.update.loop" ⟨[.ref s.heap.objs.size,.ref (s.heap.objs.size+1)],[]⟩) R { s with heap:=(s.heap.push (Aj (!w.params.followText "set-order"))).push itO,toks:=tk })
  (h:∀h2 k2,PS h2->(∀b o,b<s.heap.objs.size->s.heap.get? b=some o->h2.get? b=some o)->Q (.ref s.heap.objs.size) { s with heap:=h2,toks:=k2 }):
  ai (model prog w) A (call (.type "set") [.ref ax]) Q E s:=by
 have hlt:ax<s.heap.objs.size:=aQ ho;obtain⟨c,tl,hmro⟩:=eI.mro;have made:=eI.made;have subs:=eI.sub;refine jk (n4 ?_);show ai _ _ (callAny (.type "set") _) _ _ _;refine aB ⟨Code.quiet_builtin _ (by decide +kernel),dE F.entry_type_call ?_⟩;rw[Around.under_plain (weight_type_call_type "set" [.ref ax] []) rfl];have n1:=eI.notType;have n2:=eI.canCreate;have n3:=F.typeCall_set_1 (.ref ax)
 repeat (any_goals (first|assumption|wp_step))
 let led:Bool:=!w.params.followText "set-order";refine fY (Li (.ref ax) (E:=E) (Q₁:=λv s1=>v=.ref s.heap.objs.size/\s1={ s with heap:=s.heap.push (Aj led) }) ⟨rfl,rfl⟩) λr s1 hr=>?_;cases r with
 |error e=>exact hr
 |ok fl=>
  cases fl with
  |ret v=>
   obtain⟨rfl,rfl⟩:=hr;have e0:(s.heap.push (Aj led)).get? s.heap.objs.size=some (Aj led):=bF _ rfl;have ty0:ky { s with heap:=s.heap.push (Aj led) } (.ref s.heap.objs.size) "set" := ⟨_,e0,rfl⟩;have l1:=eI.init.lookup;have l2:=eI.init.bind (.ref s.heap.objs.size)
   repeat (any_goals (first|assumption|wp_step))
   refine fY (mL (R:=Tc s PS E) eI.init.plain F.entry_set_init (check_set_init_1 ty0 ?_)) λr2 s2 hr2=>?_
   ·obtain⟨oc,od,oda,osl⟩:=o;cases hc;have e1:(s.heap.push (Aj led)).get? ax=some { cls:=.type T,dict:=od,data:=oda,slots:=osl }:=aM _ ho;unfold eK.«set.__init__» noKeywords qc;generalize gP:pyIter=PP
    wp_walk
    subst gP;refine itr _ _ _ _ e1 ?_;refine aq (oB ?_);have ez:(s.heap.push (Aj led)).objs.size=s.heap.objs.size+1:=dF _ _;show ck _ _ (.builtin "set.update.loop" ⟨[.ref s.heap.objs.size,.ref (s.heap.push (Aj led)).objs.size],[]⟩) _ _;rw[ez];refine fil _ _ λh2 k2 S2 kk=>?_;show ai _ _ _ _ _ _;refine aB ?_;show ai _ _ (ret Value.none) _ _ _;exact aB ⟨rfl,h2,k2,rfl,S2,kk⟩
   ·cases r2 with
    |error e=>exact hr2
    |ok fl2=>
     cases fl2 with
     |ret r=>
      obtain⟨rfl,h2,k2,rfl,S2,kk⟩:=hr2
      repeat (any_goals (first|assumption|wp_step))
      exact h _ _ S2 kk
     |_=>exact hr2.elim
  |_=>exact hr.elim
end
section
variable{X:Cx}{G:Bg}{H:Hp}{pins:cH}{σ:St}{s:ag}
theorem PY(h:(sQ P w).is k v=true):v.scannable=true:=by rcases ub h with ⟨i,t,_,rfl⟩|⟨x,t,_,rfl⟩<;>rfl
theorem PZ{ks:List Key}(r:Vals (ks.map kV) its)(hb:ks.length+1<scanBound):Z6 X.prog X.w s.heap a its.toArray ks:=by
 have hl:ks.length=its.length:=by have:=r.length;rw[ah]at this;exact this
 refine⟨by rw[bp];exact hl,λi v hi hv=>?_,by rw[bp];omega⟩;have e:(ks.map kV)[i]?=some (kV ks[i]):=by rw[bB,aP hi];rfl
 obtain⟨u,hu,ru⟩:=r.get e;have eu:v=u:=by rw[List.getElem?_toArray]at hv;rw[hv]at hu;exact cq hu
 subst eu;have:=Bn (P:=X.prog) (w:=X.w) ru;exact⟨this,PY this⟩
theorem UK{ks:List Key}(I:Inv X pins σ H s)(h:SqT X.K H a (ks.map kV)):TK X.prog X.w s.heap ks a:=by
 obtain⟨its,r,p,_⟩:=I.tuple h;obtain⟨o,ho,hc,n,hd⟩:=p;refine⟨o,_,n,ho,hc,hd,?_⟩;have gen:∀(ks:List Key) (its:List ae),Vals (ks.map kV) its->PySem.ItemsAre (sQ X.prog X.w) ks its:=λks=>by
  induction ks with
  |nil=>intro its r;cases r;exact .nil
  |cons k ks ih=>intro its r;cases r with|cons h1 h2=>exact .cons (Bn h1) (ih _ h2)
 exact gen ks its r
def Ww(K:ay)(H:Hp)(a:Addr)(n:Nat):Prop:=∃ks,(SqL K H a (ks.map kV)\/SqT K H a (ks.map kV))/\ks.length+1<scanBound/\n=(yz ks).length
def Wx(K:ay)(H:Hp)(a:Addr)(n:Nat):Prop:=Ww K H a n\/
 ∃(p q:Addr) (k1 k2:List Key),SqL K H a [.ref p,.ref q]/\SqT K H p (k1.map kV)/\SqT K H q (k2.map kV)/\k1≠k2/\n=2
def Wy(X:Cx)(S:ay->Hp->Addr->Nat->Prop):Prop:=∀{pins:cH} {σ:St} {H:Hp} {s:ag} {A:aS} {E:ae->ag->Prop} {Q:ae->ag->Prop} {a:Addr} {n:Nat},Inv X pins σ H s->A.handled=none->A.units+8<cLine->S X.K H a n->
 (∀h2 k2,Wv h2 s.heap.objs.size n->(∀b o,b<s.heap.objs.size->s.heap.get? b=some o->h2.get? b=some o)->Q (.ref s.heap.objs.size) { s with heap:=h2,toks:=k2 })->ai (model X.prog X.w) A (call (.type "set") [.ref a]) Q E s
theorem Z7:Wy X (Ww):=by
 intro pins σ H s A E Q a n I hh hu hq h;have h3:A.in1.in1.in1.handled=none:=by simp[hh]
 have gt:∀{h2:Heap} {ks:List Key},h2.SetOf (sQ X.prog X.w) s.heap.objs.size (inK ks) (yz ks).length->Wv h2 s.heap.objs.size (yz ks).length:=λS=>by obtain⟨o,es,ep,t,ho,hex,hd,_,_,hz,hf,hn⟩:=S;exact⟨o,es,ep,t,ho,hex,hd,hz,hf,hn⟩
 have it:∀{o:Obj} {led:Bool},o.isFreed=false->((s.heap.push (Aj led)).push o).get? (s.heap.objs.size+1)=some o:=λ{o led} z=>by rw[show s.heap.objs.size+1=(s.heap.push (Aj led)).objs.size from(dF _ _).symm];exact bF _ z
 obtain⟨ks,hq|hq,hb,rfl⟩:=hq
 ·obtain⟨its,r,p,_⟩:=I.list hq;obtain⟨o,ho,hc,n,hd⟩:=p.isList;have hne:a≠s.heap.objs.size+1:=bb (df (aQ ho));refine Fs ho hc oE mM (by decide) (itO:={ cls:=.type "list_iterator", data:=.fields #[.ref a,.int 0 0] })
   (λA Q E s1 e k=>gK ⟨o,e,hc,n,hd⟩ k) (λtk R hR=>JP (PZ r hb) (aQ ho) (jm h3 _ a hne its.toArray) ⟨⟨_,it rfl,rfl,rfl⟩,⟨o,aM _ (aM _ ho),hc,n,hd⟩⟩ (λh2 k2 S=>hR h2 k2 (gt S)) tk) h
 ·obtain⟨its,r,p,_⟩:=I.tuple hq;obtain⟨o,ho,hc,n,hd⟩:=p;have hne:a≠s.heap.objs.size+1:=bb (df (aQ ho));refine Fs ho hc sub_tuple_set sub_tuple_frozenset (by decide) (itO:={ cls:=.type "tuple_iterator", data:=.fields #[.ref a,.int 0 0] })
   (λA Q E s1 e k=>mW ⟨o,e,hc,n,hd⟩ k) (λtk R hR=>JP (PZ r hb) (aQ ho) (Walks.tuple h3 _ a hne its.toArray) ⟨⟨_,it rfl,rfl,rfl⟩,⟨o,aM _ (aM _ ho),hc,n,hd⟩⟩ (λh2 k2 S=>hR h2 k2 (gt S)) tk) h
theorem Z8:Wy X (Wx):=by
 intro pins σ H s A E Q a n I hh hu hq h;rcases hq with hq|⟨p,q,k1,k2,hq,h1,h2,ne,rfl⟩
 ·exact Z7 I hh hu hq h
 have h3:A.in1.in1.in1.handled=none:=by simp[hh]
 have it:∀{o:Obj} {led:Bool},o.isFreed=false->((s.heap.push (Aj led)).push o).get? (s.heap.objs.size+1)=some o:=λ{o led} z=>by rw[show s.heap.objs.size+1=(s.heap.push (Aj led)).objs.size from(dF _ _).symm];exact bF _ z
 obtain⟨its,r,pp,_⟩:=I.list hq;obtain⟨o,ho,hc,n,hd⟩:=pp.isList;have hne:a≠s.heap.objs.size+1:=bb (df (aQ ho));obtain⟨u,v,rfl,ru,rv⟩:∃u v,its=[u,v]/\RelV (.ref p) u/\RelV (.ref q) v:=by cases r with|cons c1 r=>cases r with|cons c2 r=>cases r;exact⟨_,_,rfl,c1,c2⟩
 cases ru;cases rv;have t1:=UK I h1;have t2:=UK I h2;have far:∀{b:Addr} {ks:List Key},TK X.prog X.w s.heap ks b->b∉s.heap.objs.size::[s.heap.objs.size+1]:=λ{b ks} t z=>by
  obtain⟨o,_,_,e,_⟩:=t;have:=aQ e;rcases aN.mp z with z|z
  ·exact au z (bb this)
  ·exact au (aR.mp z) (bb (df this))
 have notin:s.heap.objs.size∉[s.heap.objs.size+1,a]:=by
  intro z;rcases aN.mp z with z|z
  ·exact au z (bb (eh _))
  ·exact au (aR.mp z) (fX (aQ ho))
 refine Fs ho hc oE mM (by decide) (itO:={ cls:=.type "list_iterator", data:=.fields #[.ref a,.int 0 0] })
  (λA Q E s1 e k=>gK ⟨o,e,hc,n,hd⟩ k) (λtk R hR=>?_) h
 have ke:∀{b:Addr} {o':Obj},s.heap.get? b=some o'->((s.heap.push (Aj (!X.w.params.followText "set-order"))).push { cls:=.type "list_iterator", data:=.fields #[.ref a,.int 0 0] }).get? b=some o':=λe=>aM _ (aM _ e);refine NV (jm h3 _ a hne #[.ref p,.ref q]).toS notin ne (far t1) (far t2) (λv e=>(cq e).symm) (λv e=>(cq e).symm) (by show A.units+1+1+1<cLine;omega) ⟨⟨_,it rfl,rfl,rfl⟩,⟨o,ke ho,hc,n,hd⟩⟩ (t1.kept λo=>ke) (t2.kept λo=>ke)
  (aM _ (bF _ rfl)) ⟨rfl,rfl,rfl⟩ rfl λs2 mv S2=>?_
 obtain⟨h2,g2,d2,k2,o2⟩:=s2;have eg:g2=s.gens:=mv.gens;have ed:d2=s.drawn:=mv.drawn;have eo:o2=s.os:=mv.os;subst eg ed eo;exact hR h2 k2 S2 λb o hb e=>mv.heap b o (λz=>by
  rcases aN.mp z with z|z
  ·exact au z (bb hb)
  ·exact au (aR.mp z) (bb (df hb))) (ke e)
def IA(S:ay->Hp->Addr->Nat->Prop)(K:ay)(te:TE):TE:=λσ H Q=>te σ H λx H1=>∃a n,x=.ref a/\S K H1 a n/\Q (.int n) H1
theorem NW(hV:Wy X S)(hu:X.A.units+64<cLine)(hc:X.calm=true)(g1:Gl X "len")(m1:X.mg "len" = none)(g2:Gl X "set")(m2:X.mg "set" = none)(he:PE X e te)
  (z1:aA [Expr.Call (.Name "set" p2) [e] [] p3] X.env=[(false,eval (.Call (.Name "set" p2) [e] [] p3) X.env)]:=by rfl) (z2:aA [e] X.env=[(false,eval e X.env)]:=by rfl):PE X (.Call (.Name "len" p1) [.Call (.Name "set" p2) [e] [] p3] [] p4) (IA S X.K te):=by
 intro pins s σ H Q I h;refine dZ (BE I g1 m1 oF ?_ (by decide) (by decide));refine callWith_builtin1 ?_ z1 rfl;rw[z1];show ai _ _ (spliced [(false,eval (.Call (.Name "set" p2) [e] [] p3) X.env)]) _ _ s;refine eX ?_;refine dZ (BE I g2 m2 Pv.boot_set ?_ (by decide) (by decide));refine callWith_type1 (thn (uD he yc z2 p3 pins s σ H (λvs H1=>match vs with
  |[x]=>∃a n,x=.ref a/\S X.K H1 a n/\Q (.int n) H1
  |_=>False) I h) λus s1 ⟨vs,H1,I1,r1,q1⟩=>?_) z2 rfl
 match vs,r1,q1 with
 |[x],r1,q1=>
 obtain⟨a,n,e1,hq,q⟩:=q1;subst e1;obtain⟨u,rfl,ru⟩:=vals1 r1;cases ru;refine hV I1 (I1.ok.hd hc) (by omega) hq λh2 k2 S2 kk=>?_;refine gQ ?_;obtain⟨o,es,ep,t,ho,hex,hd,hz,hf,hn⟩:=S2;have I2:Inv X pins σ H1 { s1 with heap:=h2,toks:=k2 }:=I1.kept λb o e=>kk b o (aQ e) e;refine call_len_set ho hex hd hf (by unfold scanBound at hz;omega) ⟨.int n,H1,I2.tok _,⟨_,by rw[hn]⟩,q⟩
def Bt:aT->Option (List Key)
 |[]=>some []
 |d::ds=>match Au d,Bt ds with
  |some k,some ks=>some (k::ks)
  |_,_=>none
theorem A8:∀{ds:aT} {xs:bI} {ks:List Key},sj G H ds xs->Bt ds=some ks->xs=ks.map kV
 |[],xs,ks,r,e=>by cases e;unfold sj at r;exact r
 |d::ds,xs,ks,r,e=>by
  unfold Bt at e;cases e1:Au d with
  |none=>rw[e1]at e;cases e
  |some k=>
   cases e2:Bt ds with
   |none=>rw[e1,e2]at e;cases e
   |some ks'=>rw[e1,e2]at e;cases e;unfold sj at r;obtain⟨v,r',rfl,h1,h2⟩:=r;rw[zD h1 e1,A8 h2 e2];rfl
def wC(ds:aT):Option D:=match Bt ds with
 |some ks=>if ks.length<=1000 then some (.int (yz ks).length)else none
 |none=>none
def WA:aT->Option D
 |[.tup x,.tup y]=>match Bt x,Bt y with
  |some k1,some k2=>if k1=k2 then none else some (.int 2)
  |_,_=>none
 |_=>none
def Ft(g:aT->Option D):D->Option D
 |.lst ds=>match wC ds with
  |some r=>some r
  |none=>g ds
 |.tup ds=>wC ds
 |.fzl ds=>wC ds
 |_=>none
abbrev IB:D->Option D:=Ft WA
theorem Td(h:wC ds=some r):Ft g (.lst ds)=some r:=by show (match wC ds with|some r=>some r|none=>g ds)=some r;rw[h]
theorem Lj(hK:X.K=G.K)(hO:∀{H a n},Ww X.K H a n->S X.K H a n)
  (hg:∀{ds d H1 H1' a xs},g ds=some d->SqL X.K H1' a xs->sj G H1 ds xs->sA H1 H1'->∃n:Nat,S X.K H1' a n/\d=.int n)
  (h:PE X e (IA S X.K (tF G f))):PE X e (tF G (c1 (Ft g) f)):=PE.weak h λσ H Q hh=>by
 sleep 5
 obtain⟨x,e1,e2⟩:=EH e;have key:∀{ds:aT} {xs:bI} {a:Addr} {H1 H1':Hp},wC ds=some d->sj G H1 ds xs->sA H0 H1->sL G F σ ρ' H1 H1'->(SqL X.K H1' a xs\/SqT X.K H1' a xs)->
   ∃a' n,V.ref a=.ref a'/\S X.K H1' a' n/\Q (.int n) H1':=λ{ds xs a H1 H1'} ed rs s R' hq=>by
  unfold wC at ed;cases ek:Bt ds with
  |none=>rw[ek]at ed;cases ed
  |some ks=>
   rw[ek]at ed;simp only at ed;split at ed
   ·rename_i hl;cases ed;rw[A8 rs ek]at hq;exact⟨a,_,rfl,hO ⟨ks,hq,by unfold scanBound;omega,rfl⟩,k _ _ _ s R' (uV _)⟩
   ·cases ed
 refine⟨F,ρ,H0,x,ρ',R,e1,λv H1 H1' s R' r=>?_⟩;cases x with
 |lst ds=>
  unfold Rep at r;obtain⟨a,xs,rfl,h1,h2⟩:=r;have hq:SqL X.K H1' a xs:=SqL.of (R'.sub _ _ h1);replace e2:(match wC ds with|some r=>some r|none=>g ds)=some d:=e2;cases e3:wC ds with
  |some r=>rw[e3]at e2;cases e2;exact key e3 h2 s R' (.inl hq)
  |none=>rw[e3]at e2;obtain⟨n,h3,rfl⟩:=hg e2 hq h2 R'.sub;exact⟨a,n,rfl,h3,k _ _ _ s R' (uV _)⟩
 |tup ds=>unfold Rep at r;obtain⟨a,xs,rfl,h1,h2⟩:=r;rw[<-hK]at h1;exact key e2 h2 s R' (.inr (SqT.mono R'.sub h1))
 |fzl ds=>unfold Rep at r;obtain⟨a,xs,rfl,h1,h2⟩:=r;rw[<-hK]at h1;exact key e2 h2 s R' (.inl (R'.sub.seq h1))
 |_=>cases e2
theorem Te(hK:X.K=G.K):∀{ds d H1 H1' a xs},WA ds=some d->SqL X.K H1' a xs->sj G H1 ds xs->sA H1 H1'->∃n:Nat,Wx X.K H1' a n/\d=.int n:=λ{ds d H1 H1' a xs} e2 hq h2 s=>by
 unfold WA at e2;split at e2
 ·rename_i x y;split at e2
  ·rename_i k1 k2 f1 f2;split at e2
   ·cases e2
   ·rename_i ne;cases e2;unfold sj sj sj at h2;obtain⟨v1,r1,rfl,c1,v2,r2,rfl,c2,rfl⟩:=h2;unfold Rep at c1 c2;obtain⟨p,ys,rfl,d1,d2⟩:=c1;obtain⟨q,zs,rfl,d3,d4⟩:=c2;rw[<-hK,A8 d2 f1]at d1;rw[<-hK,A8 d4 f2]at d3;exact⟨2,.inr ⟨p,q,k1,k2,hq,SqT.mono s d1,SqT.mono s d3,ne,rfl⟩,rfl⟩
  ·cases e2
 ·cases e2
theorem NX(hK:X.K=G.K)(h:PE X e (IA Wx X.K (tF G f))):PE X e (tF G (c1 IB f)):=Lj hK .inl (Te hK) h
end
theorem IC(h:(sQ P w).is k v=true):RelV (kV k) v:=by
 rcases ub h with ⟨i,t,rfl,rfl⟩|⟨x,t,rfl,rfl⟩
 ·exact⟨t,rfl⟩
 ·exact⟨t,rfl⟩
def Itd(a:Addr)(o:Obj)(kvs:List (Key×V)):It:=
 ⟨λi H=>i<kvs.length/\H a=some (.frz o (.dK kvs)),λi H x H'=>H'=H/\∃k z,kvs[i]?=some (k,z)/\x=kV k,λi H=>kvs.length<=i/\H a=some (.frz o (.dK kvs))⟩
section
variable{X:Cx}{pins:cH}{σ:St}{H:Hp}{s:ag}
theorem yC(I:Inv X pins σ H s)(e:H a=some (.frz o (.dK kvs)))(hd:o.data=.dict es ep):
  (a==cN)=false/\s.heap.get? a=some o/\∃vs,KV kvs vs/\s.heap.DictAt (sQ X.prog X.w) a vs ep:=by
 obtain⟨q0,_,y,vs,r,ob,es',ep',q1,q2,q3,q4⟩:=(show tY X.prog X.w H s.heap a (.frz o (.dK kvs)) from I.hok a _ e);rw[q0]at q1;cases q1;rw[hd]at q3;cases q3;exact⟨y,q0,vs,r,o,es,q0,q2,hd,q4⟩
theorem WB{kvs:List (Key×V)}{vs:List (Key×ae)}(r:KV kvs vs){i:Nat}{k:Key}{x:ae}(e:vs[i]?=some (k,x)):∃z,kvs[i]?=some (k,z):=by
 induction r generalizing i with
 |nil=>cases e
 |@cons p q l l' h _ ih=>
  cases i with
  |zero=>obtain⟨pk,pv⟩:=p;cases e;exact⟨pv,by rw[show pk=k from h.1];rfl⟩
  |succ i=>exact ih e
end
theorem NY{K:ay}(a it:Addr)(o:Obj)(kvs:List (Key×V)):Turn P w K tg (Itd a o kvs) [it] it (λi h=>∃es ep,o.data=.dict es ep/\h.IsKeyIter it a i kvs.length ep) where
 mem:=by simp
 obj:=λi h st b hb=>by
  have e:b=it:=by simpa using hb
  subst e;obtain⟨es,ep,hd,ob,e,c,d⟩:=st;exact⟨ob,e,λv z=>by rw[d]at z;cases z⟩
 keep:=λi h h' st k=>by obtain⟨es,ep,hd,x⟩:=st;exact⟨es,ep,hd,x.at λo e=>k it (by simp) o e⟩
 item:=by
  sleep 4
  obtain⟨hi,he⟩:=hg;obtain⟨es,ep,hd,ki⟩:=st;obtain⟨f0,f1,f2,f3,f4,f5⟩:=hf it (by simp);obtain⟨_,_,vs,r,da⟩:=yC I he hd;have hl:kvs.length=vs.length:=r.length;have hne:a≠it:=λz=>by subst z;rw[he]at f0;cases f0
  have W:=oG (knd:=sQ X.prog X.w) (A:=X.A) (I.ok.hd hc) it a hne vs ep;refine W.item i s _ _ (by omega) ⟨by rw[<-hl];exact ki,da⟩ λv h' tk hv st' kk=>?_;obtain⟨k,x,hx,hk⟩:=hv;obtain⟨z,hz⟩:=WB r hx;have I1:Inv X pins σ H { s with heap:=h',toks:=tk }:=I.turned (λb o hb e=>kk b o (by simpa using hb) e) f0 f1 f3 f4 f5;obtain⟨ki',_⟩:=st';rw[<-hl]at ki';obtain⟨ob,e,c,d⟩:=id ki';exact⟨v,rfl,LY (s:={ s with heap:=h',toks:=tk }) e c d (by decide) ⟨kV k,H,I1,IC hk,⟨rfl,k,z,hz,rfl⟩,⟨es,ep,hd,ki'⟩,λb hb=>(hf b hb).1⟩⟩
 done:=by
  sleep 4
  obtain⟨hi,he⟩:=hg;obtain⟨es,ep,hd,ki⟩:=st;obtain⟨f0,f1,f2,f3,f4,f5⟩:=hf it (by simp);obtain⟨_,_,vs,r,da⟩:=yC I he hd;have hl:kvs.length=vs.length:=r.length;exact wpAny_pyNext_dict_end (I.ok.hd hc) (by rw[<-hl];exact ki) da (gE (by rw[<-hl];exact hi)) λh' eb=>⟨rfl,I.turned (t':=s.toks) (λb o hb e=>eb b o hb e) f0 f1 f3 f4 f5⟩
 self:=λ_ _ _ _ _ st h=>by obtain⟨es,ep,hd,ki⟩:=st;exact wpAny_pyIter_keyiter ki h
section
variable{X:Cx}{G:Bg}{tg:Expr}
def Z9(tl:TE):TI:=λσ H R=>tl σ H λx H1=>∃a o kvs,x=.ref a/\H1 a=some (.frz o (.dK kvs))/\R (Itd a o kvs) H1
theorem Tf(hl:PE X l tl):PI X tg l (Z9 tl):=by
 intro pins s σ H R I h;refine thn (hl pins s σ H _ I h) λv s1 zz=>?_;obtain⟨x,H1,I1,r1,q1⟩:=zz;obtain⟨a,o,kvs,e,he,q⟩:=q1;subst e;cases r1;obtain⟨q0,_,y,vs,r,ob,es,ep,e1,e2,e3,e4⟩:=(show tY X.prog X.w H1 s1.heap a (.frz o (.dK kvs)) from I1.hok a _ he);rw[q0]at e1;cases e1;have hl:kvs.length=vs.length:=r.length;refine nE (knd:=sQ X.prog X.w) (kvs:=vs) (ep:=ep) y ⟨o,es,q0,e2,e3,e4⟩ ?_;refine⟨s1.heap.objs.size,[s1.heap.objs.size],_,_,H1,rfl,I1.kept (t':=s1.toks) λb o e=>aM _ e,NY a _ o kvs,⟨es,ep,e3,⟨_,bF _ rfl,rfl,by rw[hl];rfl⟩⟩,λb hb=>?_,q⟩;have e:b=s1.heap.objs.size:=by simpa using hb
 subst e;exact I1.fpOk (aI _) (I1.hok.fresh (aI _))
def Lk:Key->D
 |.inl i=>.int i
 |.inr x=>.str x
theorem Mw(k:Key):Rep G H (Lk k) (kV k):=by
 cases k with
 |inl i=>exact uV i
 |inr x=>exact zu x
def iD(f:FE):FA:=λρ=>match f ρ with
 |some (.dic ks ds,ρ1)=>if ks.length=ds.length then some (ks.map Lk,ρ1)else none
 |_=>none
theorem P3(h:PI X tg e (Z9 (tF G f))):PI X tg e (tFI G (iD f)):=PI.weak h λσ H R hh=>by
 obtain⟨F,ρ,H0,ds,ρ',R,e,k⟩:=hh;unfold iD at e;split at e
 ·rename_i ks ds' ρ1 e1;split at e
  ·rename_i hlen
   sleep 2
   obtain⟨a,o,xs,rfl,r1,r2,r3⟩:=r;have hz:(ks.zip xs).length=ks.length:=by rw[fm,<- r2,eG]
   refine⟨a,o,_,rfl,R'.sub _ _ r1,k _ _ _ s R' λi H2 H2' t t'=>⟨λd ed=>?_,λhl=>?_⟩⟩
   ·rw[bB]at ed;cases ek:ks[i]? with
    |none=>rw[ek]at ed;cases ed
    |some j=>
     rw[ek]at ed;cases ed;have hi:i<ks.length:=(bW.mp ek).1;refine⟨⟨by rw[hz];exact hi,t' _ _ (t _ _ r1)⟩,λz H3 y=>?_⟩;obtain⟨e3,k',z',hk',rfl⟩:=y;subst e3;have:k'=j:=by rw[mf]at hk';have:=hk'.1;rw[ek]at this;exact(cq this).symm
     subst this;exact⟨H2,sA.refl _,t',sA.refl _,λb o e=>.inl e,Mw _⟩
   ·refine⟨by rw[hz,hl,ah];exact aI _,t' _ _ (t _ _ r1)⟩
  ·cases e
 ·cases e
end
section
variable{X:Cx}{pins:cH}{σ:St}{H:Hp}{s:ag}
theorem Inv.turnedLaid{h':Heap}{T:Addr}{xs:bI}{t':Nat}{ch:List Addr}(I:Inv X pins σ H s)(hf:∀b∈ch,Gr X pins H b)(k:∀b o,b∉ch->s.heap.get? b=some o->h'.get? b=some o)
  (hT:s.heap.objs.size<=T) (new:tY X.prog X.w (upd H T (.tup xs)) h' T (.tup xs)):Inv X pins σ (upd H T (.tup xs)) { s with heap:=h',toks:=t' }:=by
 have nT:H T=none:=I.hok.fresh hT;have ne:∀{b:Addr} {u:HO},H b=some u->b≠T:=λe z=>by subst z;rw[nT]at e;cases e
 have nch:∀{b:Addr} {u:HO},H b=some u->b∉ch:=λe z=>by have:=(hf _ z).1;rw[e]at this;cases this
 have lt:∀{b:Addr} {o:Obj},s.heap.get? b=some o->b≠T:=λe z=>by subst z;exact au (cf (aQ e) hT) (dG _)
 refine I.step (g':=s.gens) (d':=s.drawn) (ch:=ch) (λb hb=>?_) (λb o _ _ hc e _=>k b o hc e) (λb o _ _ hc e _=>⟨o.slots,k b o hc e⟩) (λb o _ e n=>by rw[su (lt e)];exact n) (λb o hc e=>⟨o,k b o hc e⟩)
  (λb ys e=>by rw[su (ne e)];exact e) (λb o u e=>by rw[su (ne e)];exact e) (λb ps e=>⟨#[],by rw[su (ne e),e];simp⟩) (λm hm=>?_) (λb u e=>?_) I.bare
 ·obtain⟨f0,f1,f2,f3,f4,f5⟩:=hf b hb;exact⟨f3,f1,f4,f5⟩
 ·exact hm.at' λo e=>k _ o (λz=>(hf _ z).2.1 rfl) e
 ·by_cases hb:b=T
  ·subst hb;rw[sr]at e;cases e;exact new
  ·rw[su hb]at e;refine(I.hok b u e).stay (λc v hc q=>k c v ?_ q) (λc q=>by rw[su (ne q)];exact q) λc ys q=>by rw[su (ne q)];exact q
   rcases hc with rfl|hc
   ·exact nch e
   ·exact nch hc
def Itz(l1 l2:Addr):It:=
 ⟨λi H=>∃xs ys x y,H l1=some (.lst xs)/\H l2=some (.lst ys)/\xs[i]?=some x/\ys[i]?=some y,
  λi H v H'=>∃p x y,H p=none/\v=.ref p/\H'=upd H p (.tup [x,y])/\(∀xs,H l1=some (.lst xs)->xs[i]?=some x)/\∀ys,H l2=some (.lst ys)->ys[i]?=some y,
  λi H=>∃xs ys,H l1=some (.lst xs)/\H l2=some (.lst ys)/\(xs.length<=i\/ys.length<=i)⟩
end
structure P4(z TI TO i1 i2:Addr):Prop where
 a:TI≠z
 b:TO≠z
 c:i1≠z
 d:i2≠z
 e:TI≠TO
 f:TI≠i1
 g:TI≠i2
 h:TO≠i1
 i:TO≠i2
 j:i1≠i2
theorem WC(n:Nat):P4 (n+4) (n+2) (n+3) n (n+1) where
 a:=(by omega:(n+2:Nat)≠n+4)
 b:=(by omega:(n+3:Nat)≠n+4)
 c:=(by omega:(n:Nat)≠n+4)
 d:=(by omega:(n+1:Nat)≠n+4)
 e:=(by omega:(n+2:Nat)≠n+3)
 f:=(by omega:(n+2:Nat)≠n)
 g:=(by omega:(n+2:Nat)≠n+1)
 h:=(by omega:(n+3:Nat)≠n)
 i:=(by omega:(n+3:Nat)≠n+1)
 j:=(by omega:(n:Nat)≠n+1)
def zTn(z TI TO i1 i2 l1 l2:Addr)(i:Nat)(h:Heap):Prop:=IsZip h z TI TO .none/\IsPair h TI (.ref i1) (.ref i2)/\(∃a b,IsPair h TO a b)/\h.IsListIter i1 l1 i/\h.IsListIter i2 l2 i
theorem P5{P:aV}{w:aL}{K:ay}{elts:List Expr}{x1}{pos:Pos}{z TI TO i1 i2 l1 l2:Addr}(D:P4 z TI TO i1 i2):Turn P w K (.Tuple elts x1 pos) (Itz l1 l2) [z,TI,TO,i1,i2] z (zTn z TI TO i1 i2 l1 l2) where
 mem:=by simp
 obj:=λi h st b hb=>by
  obtain⟨hz,h1,⟨a,c,h2⟩,⟨o3,h3,_,d3⟩,⟨o4,h4,_,d4⟩⟩:=st;simp only[aN,bU,or_false]at hb;rcases hb with rfl|rfl|rfl|rfl|rfl
  ·exact⟨_,hz,λv y=>nomatch y⟩
  ·exact⟨_,h1,λv y=>nomatch y⟩
  ·exact⟨_,h2,λv y=>nomatch y⟩
  ·exact⟨o3,h3,λv y=>by rw[d3]at y;cases y⟩
  ·exact⟨o4,h4,λv y=>by rw[d4]at y;cases y⟩
 keep:=λi h h' st k=>by obtain⟨hz,h1,⟨a,c,h2⟩,h3,h4⟩:=st;exact⟨k z (by simp) _ hz,k TI (by simp) _ h1,⟨a,c,k TO (by simp) _ h2⟩,h3.at λo e=>k i1 (by simp) o e,h4.at λo e=>k i2 (by simp) o e⟩
 item:=by
  sleep 4
  obtain⟨xs,ys,x,y,q1,q2,qx,qy⟩:=hg;obtain⟨hz,hTI,⟨a,b,hTO⟩,h1,h2⟩:=st;obtain⟨its,r1,p1,_⟩:=I.list (SqL.of q1);obtain⟨jts,r2,p2,_⟩:=I.list (SqL.of q2);obtain⟨u1,hu1,ru1⟩:=r1.get qx;obtain⟨u2,hu2,ru2⟩:=r2.get qy;have nf:∀{l:Addr} {u:HO} {c:Addr},H l=some u->c∈[z,TI,TO,i1,i2]->l≠c:=λe hm w=>by subst w;have:=(hf _ hm).1;rw[e]at this;cases this
  have DD:ZipApart z TI TO i1 i2 l1 l2:=⟨D.a,D.b,D.c,D.d,D.e,D.f,D.g,D.h,D.i,D.j,nf q1 (by simp),nf q1 (by simp),nf q1 (by simp),nf q1 (by simp),nf q2 (by simp),nf q2 (by simp),nf q2 (by simp),nf q2 (by simp)⟩;refine wpAny_pyNext_zip_item DD hz hTI hTO h1 h2 p1.isList p2.isList (x:=u1) (y:=u2) (by simpa using hu1) (by simpa using hu2) λh' a1 a2 a3 a4 a5 a6 kk=>?_;refine⟨_,rfl,wpAny_letOwnedTupleGo_zip (s:={ s with heap:=h' }) a1 λh2' hz' sb=>?_⟩;have lt:∀{c:Addr} {o:Obj},s.heap.get? c=some o->s.heap.objs.size≠c:=λe w=>au (aQ e) (by rw[w];exact dG _);have Tz:s.heap.objs.size≠z:=lt hz;have hp:IsPair h2' s.heap.objs.size u1 u2:=sb.extBut _ _ Tz a5;have ch4:∀b∈[z,TO,i1,i2],b∈[z,TI,TO,i1,i2]:=λb hb=>by simp at hb ⊢;rcases hb with rfl|rfl|rfl|rfl<;>simp
  have ok:tY X.prog X.w (upd H s.heap.objs.size (.tup [x,y])) h2' s.heap.objs.size (.tup [x,y]):=⟨by rw[bR];show 2<=16777216;decide,[u1,u2],.cons ru1 (.cons ru2 .nil),_,hp,rfl,_,rfl⟩;have I1:=Inv.turnedLaid (h':=h2') (t':=s.toks) (T:=s.heap.objs.size) (xs:=[x,y]) (ch:=[z,TO,i1,i2]) I (λb hb=>hf b (ch4 b hb))
   (λb o hb e=>sb.extBut _ _ (λw=>hb (by simp[w])) (kk b o (λw=>hb (by simp[w])) (λw=>hb (by simp[w])) (λw=>hb (by simp[w])) (λw=>hb (by simp[w])) e)) (aI _) ok
  refine⟨.ref s.heap.objs.size,_,I1,rfl,⟨_,x,y,I.hok.fresh (aI _),rfl,rfl,λxs' e=>?_,λys' e=>?_⟩,⟨hz',sb.extBut _ _ D.a (kk _ _ D.a D.e D.f D.g hTI),⟨_,_,sb.extBut _ _ D.b a2⟩,a3.extBut sb.extBut D.c,a4.extBut sb.extBut D.d⟩,λb hb=>?_⟩
  ·rw[q1]at e;cases e;exact qx
  ·rw[q2]at e;cases e;exact qy
  ·rw[su (λw=>?_)]
   ·exact(hf b hb).1
   ·simp only[aN,bU,or_false]at hb;rcases hb with hb|hb|hb|hb|hb
    ·exact lt hz (w.symm.trans hb)
    ·exact lt hTI (w.symm.trans hb)
    ·exact lt hTO (w.symm.trans hb)
    ·obtain⟨o,e,_⟩:=h1;exact lt e (w.symm.trans hb)
    ·obtain⟨o,e,_⟩:=h2;exact lt e (w.symm.trans hb)
 done:=by
  sleep 4
  obtain⟨xs,ys,q1,q2,hend⟩:=hg;obtain⟨hz,hTI,⟨a,b,hTO⟩,h1,h2⟩:=st;obtain⟨its,r1,p1,_⟩:=I.list (SqL.of q1);obtain⟨jts,r2,p2,_⟩:=I.list (SqL.of q2);have nf:∀{l:Addr} {u:HO} {c:Addr},H l=some u->c∈[z,TI,TO,i1,i2]->l≠c:=λe hm w=>by subst w;have:=(hf _ hm).1;rw[e]at this;cases this
  have DD:ZipApart z TI TO i1 i2 l1 l2:=⟨D.a,D.b,D.c,D.d,D.e,D.f,D.g,D.h,D.i,D.j,nf q1 (by simp),nf q1 (by simp),nf q1 (by simp),nf q1 (by simp),nf q2 (by simp),nf q2 (by simp),nf q2 (by simp),nf q2 (by simp)⟩;have e1:=r1.length;have e2:=r2.length;refine wpAny_pyNext_zip_end (I.ok.hd hc) DD hz hTI hTO h1 h2 p1.isList p2.isList ?_ λh' kk=>⟨rfl,?_⟩
  ·rcases hend with w|w
   ·exact .inl (by simp;omega)
   ·exact .inr (by simp;omega)
  ·have ch4:∀b∈[z,TO,i1,i2],b∈[z,TI,TO,i1,i2]:=λb hb=>by simp at hb ⊢;rcases hb with rfl|rfl|rfl|rfl<;>simp
   have nch:∀{b:Addr} {u:HO},H b=some u->b∉[z,TO,i1,i2]:=λe w=>by have:=(hf _ (ch4 _ w)).1;rw[e]at this;cases this
   have k:∀b o,b∉[z,TO,i1,i2]->s.heap.get? b=some o->h'.get? b=some o:=λb o hb e=>kk b o (λw=>hb (by simp[w])) (λw=>hb (by simp[w])) (λw=>hb (by simp[w])) (λw=>hb (by simp[w])) e;refine I.step (g':=s.gens) (d':=s.drawn) (t':=s.toks) (ch:=[z,TO,i1,i2]) (λb hb=>?_) (λb o _ _ hc e _=>k b o hc e) (λb o _ _ hc e _=>⟨o.slots,k b o hc e⟩) (λb o _ e n=>n) (λb o hc e=>⟨o,k b o hc e⟩)
    (λb ys e=>e) (λb o u e=>e) (λb ps e=>⟨#[],by rw[e];simp⟩) (λm hm=>?_) (λb u e=>?_) I.bare
   ·obtain⟨f0,f1,f2,f3,f4,f5⟩:=hf b (ch4 b hb);exact⟨f3,f1,f4,f5⟩
   ·exact hm.at' λo e=>k _ o (λw=>(hf _ (ch4 _ w)).2.1 rfl) e
   ·refine(I.hok b u e).stay (λc v hc q=>k c v ?_ q) (λc q=>q) λc ys q=>q;rcases hc with rfl|hc
    ·exact nch e
    ·exact nch hc
 self:=λ_ _ _ _ _ st h=>nU st.1 h
section
variable{X:Cx}{G:Bg}{elts:List Expr}{x1:Nat}{tpos:Pos}
def iZip(ta:TA):TI:=λσ H R=>ta σ H λvs H1=>∃a b xs ys,vs=[.ref a,.ref b]/\H1 a=some (.lst xs)/\H1 b=some (.lst ys)/\R (Itz a b) H1
theorem WD(hg:Gl X "zip")(hm:X.mg "zip" = none)(ha:PA X [a,b] ta)(hs:aA [a,b] X.env=[(false,eval a X.env),(false,eval b X.env)]:=by rfl)(hs2:aA [b] X.env=[(false,eval b X.env)]:=by rfl):
  PI X (.Tuple elts x1 tpos) (.Call (.Name "zip" p) [a,b] [] pos) (iZip ta):=by
 intro pins s σ H R I h;refine Call_ (BE I hg hm boot_zip (callWith_type1 (thn (ha pos pins s σ H _ I h) λus s1 zz=>?_) (by rw[hs,hs2]) (by rw[hs2];rfl)));obtain⟨vs,H1,I1,r1,q1⟩:=zz;obtain⟨a',b',xs,ys,rfl,e1,e2,q⟩:=q1;obtain⟨u,v,rfl,ru,rv⟩:=vals2 r1;cases ru;cases rv;obtain⟨its,_,p1,_⟩:=I1.list (SqL.of e1);obtain⟨jts,_,p2,_⟩:=I1.list (SqL.of e2);refine call_zip_2 p1.isList p2.isList λh' z1 z2 z3 z4 z5 z6 kk=>?_;refine nU z1 ?_;have I2:Inv X pins σ H1 { s1 with heap:=h' }:=I1.kept (t':=s1.toks) kk;have D:=WC s1.heap.objs.size;refine⟨_,_,_,_,H1,rfl,I2,P5 D,⟨z1,z2,⟨_,_,z3⟩,z4,z5⟩,λc hc=>?_,q⟩;have hc':s1.heap.objs.size<=c:=by simp only[aN,bU,or_false]at hc;rcases hc with rfl|rfl|rfl|rfl|rfl<;>first|exact gW _ _|exact aI _
 exact I1.fpOk hc' (I1.hok.fresh hc')
def Ci(ds es:aT):aT:=dj (λd e=>D.tup [d,e]) ds es
def iZ(f:FA):FA:=λρ=>match f ρ with
 |some ([.lst ds,.lst es],ρ1)=>some (Ci ds es,ρ1)
 |_=>none
theorem JQ(ds es:aT):(Ci ds es).length=min ds.length es.length:=by unfold Ci;rw[jW]
theorem Tg(h:PI X tg e (iZip (tFA G f))):PI X tg e (tFI G (iZ f)):=PI.weak h λσ H R hh=>by
 obtain⟨F,ρ,H0,ds,ρ',R,e,k⟩:=hh;unfold iZ at e;split at e
 ·rename_i ds' es' ρ1 e1;cases e;refine⟨F,ρ,H0,_,_,R,e1,λvs H1 H1' s R' rs=>?_⟩;unfold sj at rs;obtain⟨v1,r1,rfl,h1,rs⟩:=rs;unfold sj at rs;obtain⟨v2,r2,rfl,h2,rs⟩:=rs;unfold sj at rs;subst rs;unfold Rep at h1 h2;obtain⟨a,xs,rfl,a1,a2⟩:=h1;obtain⟨b,ys,rfl,b1,b2⟩:=h2;refine⟨a,b,xs,ys,rfl,R'.sub _ _ a1,R'.sub _ _ b1,k _ _ _ s R' λi H2 H2' t t'=>?_⟩;have g1:H2' a=some (.lst xs):=t' _ _ (t _ _ a1);have g2:H2' b=some (.lst ys):=t' _ _ (t _ _ b1);refine⟨λd ed=>?_,λhl=>⟨xs,ys,g1,g2,?_⟩⟩
  ·unfold Ci at ed;rw[jP]at ed;cases ex:ds'[i]? with
   |none=>rw[ex]at ed;cases ed
   |some dx=>
    cases ey:es'[i]? with
    |none=>rw[ex,ey]at ed;cases ed
    |some dy=>
     rw[ex,ey]at ed;cases ed;obtain⟨vx,x1',x2⟩:=uF a2 ex;obtain⟨vy,y1',y2⟩:=uF b2 ey;refine⟨⟨xs,ys,vx,vy,g1,g2,x1',y1'⟩,λx H3 y=>?_⟩;obtain⟨p,x',y',hp,rfl,rfl,w1,w2⟩:=y;have e1':=w1 xs g1;have e2':=w2 ys g2;rw[x1']at e1';rw[y1']at e2';cases e1';cases e2';have p0:H2 p=none:=by
      cases q:H2 p with
      |none=>rfl
      |some o=>have:=t' _ _ q;rw[hp]at this;cases this
     refine⟨upd H2 p (.tup [vx,vy]),sG p0 _,λb o e=>?_,sG hp _,λb o e=>?_,zt (SqT.of sr) ?_⟩
     ·by_cases hb:b=p
      ·subst hb;rw[sr]at e ⊢;exact e
      ·rw[su hb]at e ⊢;exact t' _ _ e
     ·by_cases hb:b=p
      ·subst hb;exact .inr hp
      ·rw[su hb]at e;exact .inl e
     ·have m:=t.trans (sG p0 (.tup [vx,vy]));exact sX (Rep.mono m _ _ x2) (sX (Rep.mono m _ _ y2) tf)
  ·rw[JQ]at hl;rw[<-sq a2,<- sq b2];omega
 ·cases e
end
mutual
def noC(N c:Nat):D->Bool
 |.non=>true
 |.bl _=>true
 |.int _=>true
 |.str _=>true
 |.tup ds=>JR N c ds
 |.lst ds=>JR N c ds
 |.fzl ds=>JR N c ds
 |.obj k _ ds=>decide (k<N)&&decide (k≠c)&&JR N c ds
 |.dic _ ds=>JR N c ds
def JR(N c:Nat):aT->Bool
 |[]=>true
 |d::ds=>noC N c d&&JR N c ds
end
def without(H:Hp)(a:Addr):Hp:=λb=>if b=a then none else H b
theorem Fu(h:b≠a):without H a b=H b:=by unfold without;rw[ao h]
theorem Cj(h:without H a b=some o):b≠a/\H b=some o:=by
 unfold without at h;by_cases hb:b=a
 ·rw[aj hb]at h;cases h
 ·rw[ao hb]at h;exact⟨hb,h⟩
theorem v9(ha:H a=some u)(hb:H b=some v)(d:u≠v):without H a b=some v:=by rw[Fu (λz=>by subst z;rw[ha]at hb;exact d (cq hb))];exact hb
section
variable{G:Bg}{H:Hp}{a dx:Addr}{fs:List (Str×V)}{N c:Nat}
theorem JS(ha:H a=some (.ins (G.ca c) dx fs))(h:SqT G.K H p xs):SqT G.K (without H a) p xs:=by
 rcases h with (h|⟨o,h⟩)|h
 ·exact .inl (.inl (v9 ha h (λz=>nomatch z)))
 ·exact .inl (.inr ⟨o,v9 ha h (λz=>nomatch z)⟩)
 ·exact .inr h
theorem JT(ha:H a=some (.ins (G.ca c) dx fs))(h:SqL G.K H p xs):SqL G.K (without H a) p xs:=by
 rcases h with (h|⟨o,h⟩)|h
 ·exact .inl (.inl (v9 ha h (λz=>nomatch z)))
 ·exact .inl (.inr ⟨o,v9 ha h (λz=>nomatch z)⟩)
 ·exact .inr h
mutual
theorem DR(inj:∀j k,j<N->k<N->G.ca j=G.ca k->j=k)(hc:c<N)(ha:H a=some (.ins (G.ca c) dx fs)):∀(d:D) (v:V),noC N c d=true->Rep G H d v->Rep G (without H a) d v
 |.non,v,_,h=>by unfold Rep at h ⊢;exact h
 |.bl _,v,_,h=>by unfold Rep at h ⊢;exact h
 |.int _,v,_,h=>by unfold Rep at h ⊢;exact h
 |.str _,v,_,h=>by unfold Rep at h ⊢;exact h
 |.tup ds,v,n,h=>by unfold noC at n;unfold Rep at h ⊢;obtain⟨p,xs,e,h1,h2⟩:=h;exact⟨p,xs,e,JS ha h1,vO inj hc ha ds xs n h2⟩
 |.lst ds,v,n,h=>by unfold noC at n;unfold Rep at h ⊢;obtain⟨p,xs,e,h1,h2⟩:=h;exact⟨p,xs,e,v9 ha h1 (λz=>nomatch z),vO inj hc ha ds xs n h2⟩
 |.fzl ds,v,n,h=>by unfold noC at n;unfold Rep at h ⊢;obtain⟨p,xs,e,h1,h2⟩:=h;exact⟨p,xs,e,JT ha h1,vO inj hc ha ds xs n h2⟩
 |.obj k ns ds,v,n,h=>by unfold noC at n;simp only[bq,bG]at n;unfold Rep at h ⊢;obtain⟨p,dx',xs,e,h1,h2,h3⟩:=h;refine⟨p,dx',xs,e,v9 ha h1 (λz=>?_),h2,vO inj hc ha ds xs n.2 h3⟩;injection z with z1;exact n.1.2 (inj k c n.1.1 hc z1.symm)
 |.dic ks ds,v,n,h=>by unfold noC at n;unfold Rep at h ⊢;obtain⟨p,o,xs,e,h1,h2,h3⟩:=h;exact⟨p,o,xs,e,v9 ha h1 (λz=>nomatch z),h2,vO inj hc ha ds xs n h3⟩
theorem vO(inj:∀j k,j<N->k<N->G.ca j=G.ca k->j=k)(hc:c<N)(ha:H a=some (.ins (G.ca c) dx fs)):∀(ds:aT) (xs:bI),JR N c ds=true->sj G H ds xs->sj G (without H a) ds xs
 |[],xs,_,h=>by unfold sj at h ⊢;exact h
 |d::ds,xs,n,h=>by unfold JR at n;simp only[bq]at n;unfold sj at h ⊢;obtain⟨v,r,e,h1,h2⟩:=h;exact⟨v,r,e,DR inj hc ha d v n.1 h1,vO inj hc ha ds r n.2 h2⟩
end
end
def BM:Sl->Sl
 |.im d=>.im d
 |_=>.un
def yD(N:Nat)(f:FE):FE:=λρ=>match ρ with
 |.ob c ns ds::r=>match f (.im (.obj c ns ds)::r.map BM)with
  |some (d,_)=>if (decide (c<N)&&noC N c d)=true then some (d,ρ)else none
  |none=>none
 |_=>none
section
variable{X:Cx}{G:Bg}
theorem Ll:(BM s).own=false:=by cases s<;>rfl
theorem Ti(inj:∀j k,j<N->k<N->G.ca j=G.ca k->j=k)(h:PE X e (tF G f)):PE X e (tF G (yD N f)):=PE.weak h λσ H Q hh=>by
 sleep 5
 unfold yD at e;split at e
 ·rename_i c ns ds r;rcases sW (f:=f) (ρ:=.im (.obj c ns ds)::r.map BM)with e1|⟨x,ρ1,e1⟩<;>simp only[e1]at e
  ·cases e
  split at e
  ·rename_i hn;cases e;simp only[bq,bG]at hn;obtain⟨a,dx,xs,h1,h2,h3,h4,h5,h6⟩:=R.sl 0 _ rfl;have RL:sL G ⟨upd H0 a (.ins (G.ca c) dx (ns.zip xs)),H,[]⟩ σ (.im (.obj c ns ds)::r.map BM) (upd H0 a (.ins (G.ca c) dx (ns.zip xs))) H:={
    sub:=λb o q=>by
     by_cases hb:b=a
     ·subst hb;rw[sr]at q;cases q;exact h2
     ·rw[su hb]at q;exact R.sub _ _ q
    g0:=sA.refl _
    keep:=λb o q _=>q
    fr:=λb o q=>.inl q
    am:=λb q=>by cases q
    len:=by have:=R.len;simpa using this
    sl:=λi s q=>by
     cases i with
     |zero=>cases q;exact⟨.ref a,h1,by unfold Rep;exact⟨a,dx,xs,rfl,sr,h5,sj.mono (sG h3 _) _ _ h6⟩⟩
     |succ i=>
      have q':(r.map BM)[i]?=some s:=q;rw[bB]at q';cases q1:r[i]? with
      |none=>rw[q1]at q';cases q'
      |some t=>
       rw[q1]at q';cases q';have ok:=R.sl (i+1) t q1;cases t with
       |im d=>obtain⟨v,g1,g2⟩:=ok;exact⟨v,g1,Rep.mono (sG h3 _) _ _ g2⟩
       |_=>trivial
    ap:=λi j s t b _ qi _ so=>by
     cases i with
     |zero=>cases qi;cases so
     |succ i=>
      have q':(r.map BM)[i]?=some s:=qi;rw[bB]at q';cases q1:r[i]? with
      |none=>rw[q1]at q';cases q'
      |some t=>rw[q1]at q';cases q';rw[Ll]at so;cases so }
   refine⟨_,_,_,d,ρ1,RL,e1,λv H1 H1' s R' rd=>?_⟩;have ha:H1 a=some (.ins (G.ca c) dx (ns.zip xs)):=s _ _ sr;have s0:sA H0 (without H1 a):=λb o q=>by
    have hb:b≠a:=λz=>by subst z;rw[h3]at q;cases q
    rw[Fu hb];exact s b o (by rw[su hb];exact q)
   refine k v (without H1 a) H1' s0 ?_ (DR inj hn.1 ha d v hn.2 rd);refine R.grow (λb o q=>R'.keep b o q (by simp)) s0 (λb o q=>R'.sub _ _ (Cj q).2) λb o q=>?_;obtain⟨hb,q⟩:=Cj q;rcases R'.fr b o q with z|z
   ·have z':upd H0 a (.ins (G.ca c) dx (ns.zip xs)) b=some o:=z;rw[su hb]at z';exact .inl z'
   ·exact .inr z
  ·cases e
 ·cases e
end
section
variable{X:Cx}{pins:cH}{σ:St}{H:Hp}{s:ag}{a:Addr}{A:aS}{E:ae->ag->Prop}
theorem WE(I:Inv X pins σ H s)(e:H a=some (.dK kvs))(ry:RelV (kV k) u)(rz:RelV z r)(hl:kvs.length<aJ)
  (h1:∀v w s',wy kvs k=some v->Inv X pins σ H s'->RelV v w->Q w s') (h2:∀s',wy kvs k=none->Inv X pins σ (upd H a (.dK (putK kvs k z))) s'->Q r s'):
  ai (model X.prog X.w) A (call (.builtin "dict.setdefault") [.ref a,u,r]) Q E s:=by
 obtain⟨y,hd,vs,rel,dd⟩:=OR I.hok e;have hz:vs.length<=aJ:=by rw[<-rel.length];exact y
 have hp:(putK kvs k z).length<=aJ:=by have:=yA kvs k z;omega
 have rv:=rel.val k;refine fZ mD dd.typeIs F.entry_dict_setdefault (F.args_dict_setdefault_3 _ _ _) (kt_meets_setdefault (sQ X.prog X.w) a (Bn ry) hd r) ⟨vs,dd,hz,λw hw=>?_,λhn h' dd' hs=>?_⟩
 ·rw[hw]at rv;cases ev:wy kvs k with
  |none=>rw[ev]at rv;exact rv.elim
  |some v=>rw[ev]at rv;exact h1 v w _ ev (I.tok _) rv
 ·rw[hn]at rv;cases ev:wy kvs k with
  |some v=>rw[ev]at rv;exact rv.elim
  |none=>have he:∃q,h'.get? a=some q:=let ⟨q,_,_,hq,_⟩:=dd';⟨q,hq⟩;exact h2 _ ev (EG I (by rw[e];exact True.intro) hs he (K0 hp hd (rel.put k rz) dd'))
def P6(td ty tx:TE):TE:=λσ H Q=>td σ H λx H1=>∃a,x=.ref a/\IsD H1 a/\ty σ H1 λy H2=>tx σ H2 λz H3=>∃kvs k,H3 a=some (.dK kvs)/\y=kV k/\kvs.length<aJ/\
 (∀v,wy kvs k=some v->Q v H3)/\(wy kvs k=none->Q z (upd H3 a (.dK (putK kvs k z))))
theorem P7(ho:PE X o td)(he:PE X e ty)(hf:PE X f tx)(m:M2 X o "setdefault" apos e f cpos):PE X (.Call (.Attribute o "setdefault" apos) [e,f] [] cpos) (P6 td ty tx):=by
 intro pins s σ H Q I h;refine j7 m.base m.few m.line iQ mD F.type_dict_setdefault (thn (ho pins s σ H _ I h) λu s1 zz=>?_);obtain⟨x,H1,I1,rx,a,ex,d,q1⟩:=zz;subst ex;obtain rfl:u=Value.ref a:=rx;obtain⟨t1,t2,_⟩:=Im I1 d;refine⟨t1,t2,?_⟩;rw[m.trees];refine gz rfl (iM (eX (thn (he pins s1 σ H1 _ I1 q1) λiv s2 ⟨y,H2,I2,ry,q2⟩=>
  eX (thn (hf pins s2 σ H2 _ I2 q2) λfv s3 ⟨z,H3,I3,rz,kvs,k,e3,ey,hl,g1,g2⟩=>gQ ?_))))
 subst ey;exact WE I3 e3 ry rz hl (λv w s' ev I' rw'=>⟨v,H3,I',rw',g1 v ev⟩) λs' ev I'=>⟨z,_,I',rz,g2 ev⟩
end
def GA(ks:List Key)(dss:List aT)(k:Key)(d:D):List Key×List aT:=
 if Fo ks k=true then (ks,dj (λk' ds=>if k'=k then ds++[d]else ds) ks dss)else (ks++[k],dss++[[d]])
theorem JU:Fo ks k=true ↔ k∈ks:=by unfold Fo;rw[fQ];exact⟨λ⟨x,h1,h2⟩=>bu h2▸h1,λh=>⟨k,h,ba rfl⟩⟩
theorem P8{ks:List Key}{vs:bI}:ks.length=vs.length->wy (ks.zip vs) k=some v->∃j:Nat,ks[j]?=some k/\vs[j]?=some v:=by
 induction ks generalizing vs with
 |nil=>intro _ h;cases h
 |cons k0 ks ih=>
  intro hl h;cases vs with
  |nil=>cases hl
  |cons v0 vs=>
   unfold wy at h;rw[dB,eB]at h;by_cases e:k0=k
   ·subst e;simp only[decide_true]at h;cases h;exact⟨0,rfl,rfl⟩
   ·simp only[e,decide_false]at h;obtain⟨j,h1,h2⟩:=ih (by simpa using hl) h;exact⟨j+1,h1,h2⟩
theorem P9{ks:List Key}{vs:bI}:ks.length=vs.length->wy (ks.zip vs) k=none->k∉ks:=by
 induction ks generalizing vs with
 |nil=>intro _ _ h;cases h
 |cons k0 ks ih=>
  intro hl h hm;cases vs with
  |nil=>cases hl
  |cons v0 vs=>
   unfold wy at h;rw[dB,eB]at h;by_cases e:k0=k
   ·subst e;simp only[decide_true]at h;cases h
   ·simp only[e,decide_false]at h;rcases aN.mp hm with z|z
    ·exact e z.symm
    ·exact ih (by simpa using hl) h z
structure Grp(G:Bg)(F:Fr)(H0 H:Hp)(a:Addr)(ks:List Key)(dss:List aT)(bs:List Addr):Prop where
 at_:H a=some (.dK (ks.zip (bs.map V.ref)))
 n0:H0 a=none
 nB:F.B a=none
 len:ks.length=bs.length
 len':bs.length=dss.length
 nd:bs.Nodup
 kd:ks.Nodup
 each:∀(i:Nat) (b:Addr) (ds:aT),bs[i]?=some b->dss[i]?=some ds->∃xs,H b=some (.lst xs)/\H0 b=none/\F.B b=none/\sj G H0 ds xs
section
variable{G:Bg}{F:Fr}{σ:St}{ρ:bg}{H0 H H0' H':Hp}{a:Addr}{ks:List Key}{dss:List aT}{bs:List Addr}
theorem Grp.grow(g:Grp G F H0 H a ks dss bs)(hs:sA H H')(h0:sA H0 H0')(hf:∀b o,H0' b=some o->H0 b=some o\/H b=none):Grp G F H0' H' a ks dss bs where
 at_:=hs _ _ g.at_
 n0:=by
  cases q:H0' a with
  |none=>rfl
  |some o=>
   rcases hf a o q with z|z
   ·rw[g.n0]at z;cases z
   ·rw[g.at_]at z;cases z
 nB:=g.nB
 len:=g.len
 len':=g.len'
 nd:=g.nd
 kd:=g.kd
 each:=λi b ds e1 e2=>by
  obtain⟨xs,q1,q2,q3,q4⟩:=g.each i b ds e1 e2;refine⟨xs,hs _ _ q1,?_,q3,sj.mono h0 _ _ q4⟩;cases q:H0' b with
  |none=>rfl
  |some o=>
   rcases hf b o q with z|z
   ·rw[q2]at z;cases z
   ·rw[q1]at z;cases z
theorem sL.still(R:sL G F σ ρ H0 H)(no:∀s∈ρ,s.own=false):sL G ⟨H0,H,[]⟩ σ ρ H0 H where
 sub:=R.sub
 g0:=sA.refl _
 keep:=λb o e _=>e
 fr:=λb o e=>.inl e
 am:=λa h=>by cases h
 len:=R.len
 sl:=λi s e=>by
  have ok:=R.sl i s e;have n:=no s (cJ e);cases s with
  |un=>trivial
  |im d=>exact ok
  |_=>cases n
 ap:=λi j s t b _ e _ so=>by rw[no s (cJ e)]at so;cases so
theorem sL.touch(R:sL G F σ ρ H0 H)(no:∀s∈ρ,s.own=false)(hk:∀b o,H b=some o->(H0 b≠none\/F.B b≠none)->H' b=some o)(ha:∀b o,H b=some o->∃o',H' b=some o'):sL G F σ ρ H0 H' where
 sub:=λb o e=>hk b o (R.sub _ _ e) (.inl (by rw[e];exact λz=>nomatch z))
 g0:=R.g0
 keep:=λb o e n=>hk b o (R.keep b o e n) (.inr (by rw[e];exact λz=>nomatch z))
 fr:=R.fr
 am:=λb hb=>by obtain⟨o,e⟩:=R.am b hb;exact ha b o e
 len:=R.len
 sl:=λi s e=>by
  have ok:=R.sl i s e;have n:=no s (cJ e);cases s with
  |un=>trivial
  |im d=>exact ok
  |_=>cases n
 ap:=λi j s t b _ e _ so=>by rw[no s (cJ e)]at so;cases so
theorem WG{bs:List Addr}(h:bs.Nodup){i j:Nat}{b:Addr}(e1:bs[i]?=some b)(e2:bs[j]?=some b):i=j:=by obtain⟨h1,q1⟩:=bW.mp e1;obtain⟨h2,q2⟩:=bW.mp e2;exact(j8 h).mp (q1.trans q2.symm)
theorem WH{ks:List Key}(h:ks.Nodup){i j:Nat}{b:Key}(e1:ks[i]?=some b)(e2:ks[j]?=some b):i=j:=by obtain⟨h1,q1⟩:=bW.mp e1;obtain⟨h2,q2⟩:=bW.mp e2;exact(j8 h).mp (q1.trans q2.symm)
theorem Grp.more(g:Grp G F H0 H a ks dss bs){j:Nat}{k:Key}{b:Addr}{d:D}{v:V}{xs:bI}(ek:ks[j]?=some k)(eb:bs[j]?=some b)(hx:H b=some (.lst xs))(rd:Rep G H0 d v):
  Grp G F H0 (upd H b (.lst (xs++[v]))) a (GA ks dss k d).1 (GA ks dss k d).2 bs:=by
 have hm:Fo ks k=true:=JU.mpr (cJ ek);unfold GA;rw[aj hm];have ne:a≠b:=λz=>by subst z;rw[g.at_]at hx;cases hx
 refine⟨by rw[su ne];exact g.at_,g.n0,g.nB,g.len,?_,g.nd,g.kd,λi c ds e1 e2=>?_⟩
 ·rw[jW,<- g.len',<- g.len,eG,g.len]
 ·rw[jP]at e2;cases q1:ks[i]? with
  |none=>rw[q1]at e2;cases e2
  |some k'=>
   cases q2:dss[i]? with
   |none=>rw[q1,q2]at e2;cases e2
   |some ds'=>
    rw[q1,q2]at e2;cases e2;obtain⟨ys,w1,w2,w3,w4⟩:=g.each i c ds' e1 q2;by_cases hk:k'=k
    ·subst hk;have ij:=WH g.kd q1 ek;subst ij;rw[e1]at eb;cases eb;rw[w1]at hx;cases hx;rw[aj rfl];exact⟨_,sr,w2,w3,u6 w4 (sX rd tf)⟩
    ·rw[ao hk];have nc:c≠b:=λz=>by subst z;have ij:=WG g.nd e1 eb;subst ij;rw[q1]at ek;cases ek;exact hk rfl
     exact⟨ys,by rw[su nc];exact w1,w2,w3,w4⟩
theorem Grp.fresh(g:Grp G F H0 H a ks dss bs)(hk:k∉ks)(hp:H p=none)(h0:H0 p=none)(hB:F.B p=none)(rd:Rep G H0 d v):
  Grp G F H0 (upd (upd (upd H p (.lst [])) a (.dK ((ks++[k]).zip ((bs++[p]).map V.ref)))) p (.lst [v])) a (GA ks dss k d).1 (GA ks dss k d).2 (bs++[p]):=by
 have hm:¬Fo ks k=true:=λz=>hk (JU.mp z);unfold GA;rw[ao hm];have ne:a≠p:=λz=>by subst z;rw[g.at_]at hp;cases hp
 have np:p∉bs:=λz=>by
  obtain⟨i,hi,e⟩:=jX z;have e1:bs[i]?=some p:=by rw[aP hi,e]
  obtain⟨ds,e2⟩:∃ds,dss[i]?=some ds:=⟨dss[i]'(by rw[<-g.len'];exact hi),aP _⟩;obtain⟨ys,w1,_⟩:=g.each i p ds e1 e2;rw[hp]at w1;cases w1
 refine⟨by rw[su ne,sr],g.n0,g.nB,by simp[g.len],by simp[g.len'],?_,?_,λi c ds e1 e2=>?_⟩
 ·rw[cc];refine⟨g.nd,by simp,λx hx y hy=>?_⟩;rw[aR]at hy;subst hy;exact λz=>np (z▸hx)
 ·rw[cc];refine⟨g.kd,by simp,λx hx y hy=>?_⟩;rw[aR]at hy;subst hy;exact λz=>hk (z▸hx)
 ·by_cases hi:i<bs.length
  ·rw[cW hi]at e1;rw[cW (by rw[<-g.len'];exact hi)]at e2;obtain⟨ys,w1,w2,w3,w4⟩:=g.each i c ds e1 e2;have nc:c≠p:=λz=>np (z▸cJ e1);have na:c≠a:=λz=>by subst z;rw[g.at_]at w1;cases w1
   exact⟨ys,by rw[su nc,su na,su nc];exact w1,w2,w3,w4⟩
  ·have hi':i=bs.length:=by have:i<(bs++[p]).length:=(bW.mp e1).1;rw[aC,bh]at this;omega
   subst hi';rw[cI (aI _),jh]at e1;rw[g.len',cI (aI _),jh]at e2;cases e1;cases e2;exact⟨[v],sr,h0,hB,sX rd tf⟩
def JV(G:Bg)(fk:FE):TS:=Uw (tBM G.K "list" Ik (P6 (yL 1) (tF G fk) (Zg Jl)) (EU (yL 2) Jl))
theorem Qa{D0:Ends}{vr:V}(R:sL G F σ ρ H0 H)(no:∀s∈ρ,s.own=false)(h1:σ[1]?=some (some (.ref a)))(h2:σ[2]?=some (some vr))(rd:Rep G H0 d vr)
  (g:Grp G F H0 H a ks dss bs) (hk:fk ρ=some (x,ρ)) (ek:Au x=some k) (l1:ks.length<1000) (l2:∀ds∈dss,ds.length<1000)
  (kont:∀Hi Hj bs',sA H0 Hi->sL G F σ ρ Hi Hj->Grp G F Hi Hj a (GA ks dss k d).1 (GA ks dss k d).2 bs'->D0.nx σ Hj):JV G fk D0 σ H:=by
 refine⟨.ref a,h1,a,rfl,.inl ⟨_,.inl g.at_⟩,_,_,_,x,ρ,sL.still R no,hk,λv H1 H1' s R1 r=>?_⟩;have hs:sA H H1':=λb o e=>R1.keep b o e (by simp);have hf:∀b o,H1 b=some o->H0 b=some o\/H b=none:=R1.fr;have R2:sL G F σ ρ H1 H1':=R.grow hs s R1.sub hf;have g2:Grp G F H1 H1' a ks dss bs:=g.grow hs s hf;have rd2:=Rep.mono s _ _ rd;refine⟨cu _,λp hp=>?_⟩;have np:a≠p:=λz=>by subst z;rw[g2.at_]at hp;cases hp
 have R3:sL G F σ ρ H1 (upd H1' p (.lst [])):=R2.newOwn hp _;have g3:Grp G F H1 (upd H1' p (.lst [])) a ks dss bs:=g2.grow (sG hp _) (sA.refl _) λb o e=>.inl e;have lz:(ks.zip (bs.map V.ref)).length<aJ:=by rw[fm,ah,<- g.len,eG,bR];omega
 refine⟨_,k,g3.at_,zD r ek,lz,λw ev=>?_,λev=>?_⟩
 ·obtain⟨j,e1,e2⟩:=P8 (by rw[ah];exact g.len) ev;rw[bB]at e2;cases eb:bs[j]? with
  |none=>rw[eb]at e2;cases e2
  |some b=>
   rw[eb]at e2;cases e2;obtain⟨ds,ed⟩:∃ds,dss[j]?=some ds:=⟨dss[j]'(by rw[<-g.len'];exact(bW.mp eb).1),aP _⟩;obtain⟨xs,w1,w2,w3,w4⟩:=g3.each j b ds eb ed;have lx:xs.length<aJ:=by rw[<-sq w4,bR];have:=l2 ds (cJ ed);omega
   refine⟨.inl ⟨rfl,xs,SqL.of w1⟩,vr,h2,b,xs,vr,rfl,rfl,w1,lx,?_⟩;refine kont H1 _ bs s (sL.touch R3 no (λc o e z=>?_) λc o e=>?_) (g3.more e1 eb w1 rd2)
   ·have nc:c≠b:=λy=>by
     subst y;rcases z with z|z
     ·exact z w2
     ·exact z w3
    rw[su nc];exact e
   ·by_cases y:c=b
    ·subst y;exact⟨_,sr⟩
    ·rw[su y];exact⟨o,e⟩
 ·have nk:=P9 (by rw[ah];exact g.len) ev;have h0p:H1 p=none:=R2.h0none hp;have hBp:F.B p=none:=R2.bNone hp;have ez:putK (ks.zip (bs.map V.ref)) k (.ref p)=(ks++[k]).zip ((bs++[p]).map V.ref):=by rw[OQ _ ev,bj,nY (by rw[ah];exact g.len)];rfl
  rw[ez];have q0:upd (upd H1' p (.lst [])) a (.dK ((ks++[k]).zip ((bs++[p]).map V.ref))) p=some (.lst []):=by rw[su (λz=>np z.symm),sr]
  refine⟨.inl ⟨rfl,[],SqL.of q0⟩,vr,h2,p,[],vr,rfl,rfl,q0,by rw[bR];decide,?_⟩;refine kont H1 _ (bs++[p]) s (sL.touch R3 no (λc o e z=>?_) λc o e=>?_) (g2.fresh nk hp h0p hBp rd2)
  ·have n1:c≠p:=λy=>by
    subst y;rcases z with z|z
    ·exact z h0p
    ·exact z hBp
   have n2:c≠a:=λy=>by
    subst y;rcases z with z|z
    ·exact z g2.n0
    ·exact z g2.nB
   rw[bP,su n1,su n2];exact e
  ·by_cases y:c=p
   ·subst y;exact⟨_,sr⟩
   ·rw[su y];by_cases y2:c=a
    ·subst y2;exact⟨_,sr⟩
    ·rw[su y2];exact⟨o,e⟩
end
def Dn(vk:D->Option D):aT->List Key->List aT->Option (List Key×List aT)
 |[],ks,dss=>some (ks,dss)
 |d::r,ks,dss=>match vk d with
  |some x=>match Au x with
   |some k=>if (decide (ks.length<1000)&&dss.all λds=>decide (ds.length<1000))=true then Dn vk r (GA ks dss k d).1 (GA ks dss k d).2 else none
   |none=>none
  |none=>none
def Lm(vk:D->Option D):FS:=λρ=>match ρ with
 |[.im (.lst L),.un,.un]=>match Dn vk L [] []with
  |some (ks,dss)=>some (.rt (.dic ks (dss.map .lst)) [.im (.lst L),.un,.un])
  |none=>none
 |_=>none
section
variable{X:Cx}{G:Bg}
theorem DS:∀(bs:List Addr) (dss:List aT),bs.length=dss.length->(∀(i:Nat) (b:Addr) (ds:aT),bs[i]?=some b->dss[i]?=some ds->∃xs,Hq b=some (.lst xs)/\sj G Hq ds xs)->
  sj G Hq (dss.map .lst) (bs.map V.ref)
 |[],[],_,_=>tf
 |[],_::_,h,_=>by cases h
 |_::_,[],h,_=>by cases h
 |b::bs,ds::dss,h,k=>by obtain⟨xs,h1,h2⟩:=k 0 b ds rfl rfl;exact sX (yB h1 h2) (DS bs dss (by simpa using h) λi b ds e1 e2=>k (i+1) b ds e1 e2)
theorem Tj(R:sL G F σ [.im (.lst L),.un,s2] H0 H)(g:Grp G F H0 H a ks dss bs)(o:Obj):
  ∃Hq,sA H0 Hq/\sL G F σ [.im (.lst L),.un,.un] Hq (upd H a (.frz o (.dK (ks.zip (bs.map V.ref)))))/\Rep G Hq (.dic ks (dss.map .lst)) (.ref a):=by
 have mb:∀{b:Addr},b∈bs->∃xs,H b=some (.lst xs)/\H0 b=none/\F.B b=none:=λ{b} hb=>by obtain⟨i,hi,e⟩:=jX hb;obtain⟨xs,w1,w2,w3,_⟩:=g.each i b (dss[i]'(by rw[<-g.len'];exact hi)) (by rw[aP hi,e]) (aP _);exact⟨xs,w1,w2,w3⟩
 have na:a∉bs:=λz=>by obtain⟨xs,w1,_⟩:=mb z;rw[g.at_]at w1;cases w1
 have s0:sA H0 (λc=>if c=a then some (.frz o (.dK (ks.zip (bs.map V.ref))))else if c∈bs then H c else H0 c):=λc u e=>by
  have n1:c≠a:=λz=>by subst z;rw[g.n0]at e;cases e
  have n2:c∉bs:=λz=>by obtain⟨_,_,w2,_⟩:=mb z;rw[w2]at e;cases e
  show (if c=a then _ else if c∈bs then H c else H0 c)=_;rw[ao n1,ao n2];exact e
 refine⟨_,s0,?_,?_⟩
 ·exact {
   sub:=λc u e=>by
    have e':(if c=a then some (HO.frz o (.dK (ks.zip (bs.map V.ref))))else if c∈bs then H c else H0 c)=some u:=e;by_cases n1:c=a
    ·subst n1;rw[aj rfl]at e';rw[sr];exact e'
    ·rw[ao n1]at e';rw[su n1];by_cases n2:c∈bs
     ·rw[aj n2]at e';exact e'
     ·rw[ao n2]at e';exact R.sub _ _ e'
   g0:=R.g0.trans s0
   keep:=λc u e n=>by rw[su (λz=>by subst z;rw[g.nB]at e;cases e)];exact R.keep c u e n
   fr:=λc u e=>by
    have e':(if c=a then some (HO.frz o (.dK (ks.zip (bs.map V.ref))))else if c∈bs then H c else H0 c)=some u:=e;by_cases n1:c=a
    ·subst n1;exact .inr g.nB
    ·rw[ao n1]at e';by_cases n2:c∈bs
     ·obtain⟨_,_,_,w3⟩:=mb n2;exact .inr w3
     ·rw[ao n2]at e';exact R.fr _ _ e'
   am:=λc hc=>by
    by_cases n1:c=a
    ·subst n1;exact⟨_,sr⟩
    ·rw[su n1];exact R.am c hc
   len:=R.len
   sl:=λi s e=>by
    match i,e with
    |0,e=>cases e;obtain⟨v,w1,w2⟩:=R.sl 0 _ rfl;exact⟨v,w1,Rep.mono s0 _ _ w2⟩
    |1,e=>cases e;trivial
    |2,e=>cases e;trivial
    |i+3,e=>cases e
   ap:=λi j s t b _ e _ so=>by
    match i,e with
    |0,e=>cases e;cases so
    |1,e=>cases e;cases so
    |2,e=>cases e;cases so
    |i+3,e=>cases e }
 ·unfold Rep;refine⟨a,o,bs.map V.ref,rfl,by show (if a=a then _ else _)=_;rw[aj rfl],by rw[ah];exact g.len,DS bs dss g.len' λi b ds e1 e2=>?_⟩;obtain⟨xs,w1,w2,w3,w4⟩:=g.each i b ds e1 e2;have hb:=cJ e1;refine⟨xs,?_,sj.mono s0 _ _ w4⟩;show (if b=a then _ else if b∈bs then H b else H0 b)=_;have nb:b≠a:=λz=>na (by rw[<-z];exact hb);rw[ao nb,aj hb];exact w1
def Qb{L:aT}{s2:Sl}(h:s2.own=false):∀s∈[Sl.im (.lst L),.un,s2],s.own=false:=λs hs=>by
 simp only[aN,bU,or_false]at hs;rcases hs with rfl|rfl|rfl
 ·rfl
 ·rfl
 ·exact h
theorem NZ(h1:PS X st1 (CU K1 (yZ 1)))(h2:PS X st2 (Vi (tFI G (iL (cV 0))) (yZ 2) (JV G (c1 vk (cV 2)))))
  (h3:PS X st3 (Y4 (λσ H Q=>yL 1 σ H λx H1=>Q x H1\/∃a kvs,H1 a=some (.dK kvs)/\∀o,Q x (upd H1 a (.frz o (.dK kvs)))))):PSs X [st1,st2,st3] (tFS G (Lm vk)):=
 PSs.weak (EO h1 (EO h2 (HY h3))) λE σ H hh=>by
  obtain⟨F,ρ,H0,o,R,e,k,k2⟩:=hh;unfold Lm at e;split at e
  ·rename_i L;cases eg:Dn vk L [] []with
   |none=>simp only[eg]at e;cases e
   |some p=>
    obtain⟨KS,DSS⟩:=p;simp only[eg]at e;cases e;intro p hp;have R1:sL G F (σ.set 1 (some (.ref p))) [.im (.lst L),.un,.un] H0 (upd H p (.dK [])):=(R.newOwn hp (.dK [])).set (i:=1) (v:=.ref p) (s:=.un) trivial (λz=>by cases z);have hlen:σ.length=3:=R.len;have g1:Grp G F H0 (upd H p (.dK [])) p [] [] []:=⟨sr,R.h0none hp,R.bNone hp,rfl,rfl,gZ,gZ,λi b ds e1=>by cases e1⟩;have v1:(σ.set 1 (some (V.ref p)))[1]?=some (some (.ref p)):=by rw[iK (by rw[hlen];decide)]
    refine⟨_,_,_,L,_,sL.still R1 (Qb rfl),rfl,λJ Ha Hb s Ra wk=>?_⟩;have hs:sA (upd H p (.dK [])) Hb:=λb o e=>Ra.keep b o e (by simp);have R2:=R1.grow hs s Ra.sub Ra.fr;have g2:=g1.grow hs s Ra.fr;refine⟨λi m σ' H'=>m=L.length - i/\i<=L.length/\∃Hi ks dss bs s2,sA Ha Hi/\Sl.own s2=false/\sL G F σ' [.im (.lst L),.un,s2] Hi H'/\σ'[1]?=some (some (.ref p))/\Grp G F Hi H' p ks dss bs/\Dn vk (L.drop i) ks dss=some (KS,DSS),
     ⟨_,rfl,cu _,Ha,[],[],[],.un,sA.refl _,rfl,R2,v1,g2,eg⟩,?_⟩
    rintro i m σi Hi' ⟨rfl,hi,Hi,ks,dss,bs,s2,si,n2,Ri,vi,gi,ei⟩;by_cases hlt:i<L.length
    ·have ed:L.drop i=L[i]::L.drop (i+1):=iG hlt;rw[ed]at ei;unfold Dn at ei;cases ev:vk L[i]with
     |none=>simp only[ev]at ei;cases ei
     |some x=>
      simp only[ev]at ei;cases ek:Au x with
      |none=>simp only[ek]at ei;cases ei
      |some kk=>
       simp only[ek]at ei;split at ei
       ·rename_i hb;simp only[bq,bG,bJ]at hb;obtain⟨go,yl⟩:=(wk i Hi Hi' si Ri.sub).1 L[i] (aP hlt);refine .inr ⟨go,λσ' H'=>∃Hi ks dss bs s2,sA Ha Hi/\Sl.own s2=false/\sL G F σ' [.im (.lst L),.un,s2] Hi H'/\σ'[1]?=some (some (.ref p))/\Grp G F Hi H' p ks dss bs/\Dn vk (L.drop (i+1)) ks dss=some (KS,DSS),
         λσ' H' q=>⟨L.length - (i+1),by omega,rfl,hlt,q⟩,λxv H' y=>?_⟩
        obtain⟨H2,t1,t2,t3,t4,t5⟩:=yl xv H' y;have hl3:σi.length=3:=Ri.len;have R3:sL G F (σi.set 2 (some xv)) [.im (.lst L),.un,.im L[i]] H2 H':=(Ri.grow t3 t1 t2 t4).setIm 2 t5;have w1:(σi.set 2 (some xv))[1]?=some (some (.ref p)):=by rw[jR (by decide)];exact vi
        have w2:(σi.set 2 (some xv))[2]?=some (some xv):=by rw[iK (by rw[hl3];decide)]
        refine Qa R3 (Qb rfl) w1 w2 t5 (gi.grow t3 t1 t4) (by show c1 vk (cV 2) _=_;unfold c1 cV;simp only[iJ,List.getElem?_cons_zero,ev]) ek hb.1 (λds hd=>hb.2 ds hd) λHc Hd bs' sc Rc gc=>?_;exact⟨Hc,_,_,bs',_,si.trans (t1.trans sc),rfl,Rc,w1,gc,ei⟩
       ·cases ei
    ·have hi':i=L.length:=by omega
     refine .inl ⟨(wk i Hi Hi' si Ri.sub).2 hi',?_⟩;subst hi';rw[List.drop_length]at ei;cases ei;refine⟨.ref p,vi,.inr ⟨p,_,gi.at_,λo=>?_⟩⟩;obtain⟨Hq,q1,q2,q3⟩:=Tj Ri gi o;exact k _ _ Hq _ (s.trans (si.trans q1)) q2 q3
  ·cases e
end
section
variable{X:Cx}{G:Bg}
theorem To:∀y b,vq "int" y=some b->cY X.K (y.val G) (.type "int")=some b:=λy b h=>by
 cases y with
 |c k=>cases h
 |b n=>
  unfold vq at h;simp only at h
  iterate 7 (split at h;· rename_i e;subst e;cases h;first|rfl|kernel_rfl)
  cases h
theorem Qc:∀y b,vq "bool" y=some b->cY X.K (y.val G) (.type "bool")=some b:=λy b h=>by
 cases y with
 |c k=>cases h
 |b n=>
  unfold vq at h;simp only at h
  iterate 7 (split at h;· rename_i e;subst e;cases h;first|rfl|kernel_rfl)
  cases h
theorem kit_tuple:∀y b,vq "tuple" y=some b->cY X.K (y.val G) (.type "tuple")=some b:=λy b h=>by
 cases y with
 |c k=>cases h
 |b n=>
  unfold vq at h;simp only at h
  iterate 7 (split at h;· rename_i e;subst e;cases h;first|rfl|kernel_rfl)
  cases h
end
theorem Fv:entryFor table "dict_itemiterator.__iter__" = some eK.«dict_keyiterator.__iter__»:=by
 refine entryFor_alias (id':="dict_keyiterator.__iter__") ?_ rfl ?_ ?_
 ·kernel_rfl
 ·decide +kernel
 ·kernel_rfl
theorem Tp{kvs:List (Key×V)}{vs:List (Key×ae)}(r:KV kvs vs){i:Nat}{k:Key}{x:ae}(e:vs[i]?=some (k,x)):∃z,kvs[i]?=some (k,z)/\RelV z x:=by
 induction r generalizing i with
 |nil=>cases e
 |@cons p q l l' h _ ih=>
  cases i with
  |zero=>obtain⟨pk,pv⟩:=p;cases e;exact⟨pv,by rw[show pk=k from h.1];rfl,h.2⟩
  |succ i=>exact ih e
def Iti(a:Addr)(o:Obj)(kvs:List (Key×V)):It:=
 ⟨λi H=>i<kvs.length/\H a=some (.frz o (.dK kvs)),λi H v H'=>∃p k z,H p=none/\v=.ref p/\H'=upd H p (.tup [kV k,z])/\kvs[i]?=some (k,z),λi H=>kvs.length<=i/\H a=some (.frz o (.dK kvs))⟩
def iTn(it a:Addr)(o:Obj)(n:Nat)(i:Nat)(h:Heap):Prop:=∃es ep ok ov,o.data=.dict es ep/\IsItemIter h it a i n ep ok ov
theorem Ln{K:ay}{x1}(a it:Addr)(o:Obj)(kvs:List (Key×V)):Turn P w K (.Tuple elts x1 pos) (Iti a o kvs) [it] it (iTn it a o kvs.length) where
 mem:=by simp
 obj:=λi h st b hb=>by
  have e:b=it:=by simpa using hb
  subst e;obtain⟨es,ep,ok,ov,hd,q⟩:=st;exact⟨_,q,λv z=>nomatch z⟩
 keep:=λi h h' st k=>by obtain⟨es,ep,ok,ov,hd,q⟩:=st;exact⟨es,ep,ok,ov,hd,k it (by simp) _ q⟩
 item:=by
  sleep 4
  obtain⟨hi,he⟩:=hg;obtain⟨es,ep,ok,ov,hd,ki⟩:=st;obtain⟨_,_,vs,r,da⟩:=yC I he hd;have hl:kvs.length=vs.length:=r.length;obtain⟨⟨k,x⟩,hx⟩:∃q,vs[i]?=some q:=⟨vs[i]'(by rw[<-hl];exact hi),aP _⟩;obtain⟨z,hz,rz⟩:=Tp r hx;rw[hl]at ki;refine wpAny_pyNext_items_item ki da hx λkey h' hk q1 q2 q3 kk=>?_;refine⟨_,rfl,wpAny_letOwnedTupleGo_items (s:={ s with heap:=h' }) q1 λh2 q4 sb=>?_⟩;have lt:s.heap.objs.size≠it:=λw=>au (aQ ki) (by rw[w];exact dG _);have hp:h2.get? s.heap.objs.size=some { cls:=.type "tuple", data:=.seq #[key,x] }:=sb.extBut _ _ lt q2;have ok':tY X.prog X.w (upd H s.heap.objs.size (.tup [kV k,z])) h2 s.heap.objs.size (.tup [kV k,z]):=⟨by rw[bR];show 2<=16777216;decide,[key,x],.cons (IC hk) (.cons rz .nil),_,hp,rfl,_,rfl⟩;have I1:=Inv.turnedLaid (h':=h2) (t':=s.toks) (T:=s.heap.objs.size) (xs:=[kV k,z]) (ch:=[it]) I hf
   (λb o hb e=>sb.extBut _ _ (λw=>hb (by simp[w])) (kk b o (λw=>hb (by simp[w])) e)) (aI _) ok'
  refine⟨.ref s.heap.objs.size,_,I1,rfl,⟨_,k,z,I.hok.fresh (aI _),rfl,rfl,hz⟩,⟨es,ep,key,x,hd,by rw[hl];exact q4⟩,λb hb=>?_⟩;rw[su (λw=>?_)]
  ·exact(hf b hb).1
  ·have e:b=it:=by simpa using hb
   exact lt (w.symm.trans e)
 done:=by
  sleep 4
  obtain⟨hi,he⟩:=hg;obtain⟨es,ep,ok,ov,hd,ki⟩:=st;obtain⟨f0,f1,f2,f3,f4,f5⟩:=hf it (by simp);obtain⟨_,_,vs,r,da⟩:=yC I he hd;have hl:kvs.length=vs.length:=r.length;rw[hl]at ki;exact wpAny_pyNext_items_end (I.ok.hd hc) ki da (gE (by rw[<-hl];exact hi)) λh' eb=>⟨rfl,I.turned (t':=s.toks) (λb o hb e=>eb b o hb e) f0 f1 f3 f4 f5⟩
 self:=λA i s Q E st h=>by obtain⟨es,ep,ok,ov,hd,ki⟩:=st;have hT:s.TypeIs (.ref it) "dict_itemiterator" := ⟨_,ki,rfl⟩;refine wpAny_pyIter_slot hT l6 (iU l6 hT Fv ?_ (F.args_dict_itemiterator_iter_1 _));show ai _ _ (ret (.ref it)) _ _ s;exact aB ⟨_,rfl,"dict_itemiterator", _,hT,F.slot_dict_itemiterator_next.lookup,h⟩
section
variable{X:Cx}{G:Bg}{elts:List Expr}{x1:Nat}{tpos:Pos}
def Qd(tl:TE):TI:=λσ H R=>tl σ H λx H1=>∃a o kvs,x=.ref a/\H1 a=some (.frz o (.dK kvs))/\R (Iti a o kvs) H1
theorem Qe{apos cpos:Pos}(ho:PE X o tl)(hbase:dH o "items" X.env (eval o X.env)=eval o X.env:=by rfl)(hline:(apos.endLine==cpos.line)=true:=by rfl):
  PI X (.Tuple elts x1 tpos) (.Call (.Attribute o "items" apos) [] [] cpos) (Qd tl):=by
 intro pins s σ H R I h;refine wpAny_Call_method0_late hbase hline (thn (ho pins s σ H _ I h) λv s1 zz=>?_);obtain⟨x,H1,I1,r1,a,ob,kvs,e,he,q⟩:=zz;subst e;obtain rfl:v=Value.ref a:=r1;obtain⟨t1,t2,t3⟩:=Im I1 (.inl ⟨kvs,.inr ⟨ob,he⟩⟩);refine⟨"dict", "dict.items", iQ,nF,F.type_dict_items,t1,t2,gz rfl (PySem.evalArgs_none ?_)⟩;obtain⟨q0,_,y,vs,r,ob',es,ep,e1,e2,e3,e4⟩:=(show tY X.prog X.w H1 s1.heap a (.frz ob (.dK kvs)) from I1.hok a _ he);rw[q0]at e1;cases e1;have hl:kvs.length=vs.length:=r.length;have da:s1.heap.DictAt (sQ X.prog X.w) a vs ep:=⟨ob,es,q0,e2,e3,e4⟩;refine fZ nF t1 F.entry_dict_items (F.args_dict_items_1 _) (meets_dict_items (sQ X.prog X.w) a y) ⟨⟨vs,da.dictOf⟩,?_⟩;have I2:Inv X pins σ H1 { s1 with heap:=s1.heap.push { cls:=.type "dict_items", data:=.fields #[.ref a] } }:=I1.kept (t':=s1.toks) λb o e=>aM _ e;refine wpAny_pyIter_items (knd:=sQ X.prog X.w) (kvs:=vs) (ep:=ep) ⟨_,bF _ rfl,rfl,rfl⟩ (da.push _) ?_;refine⟨_,[_],_,_,H1,rfl,I2.kept (t':=s1.toks) λb o e=>aM _ e,Ln a _ ob kvs,⟨es,ep,.none,.none,e3,by rw[hl];exact bF _ rfl⟩,λb hb=>?_,q⟩;have e:=aR.mp hb;subst e;exact I2.fpOk (aI _) (I2.hok.fresh (aI _))
def iIt(f:FE):FA:=λρ=>match f ρ with
 |some (.dic ks ds,ρ1)=>some (Ci (ks.map Lk) ds,ρ1)
 |_=>none
theorem N0(h:PI X tg e (Qd (tF G f))):PI X tg e (tFI G (iIt f)):=PI.weak h λσ H R hh=>by
 obtain⟨F,ρ,H0,ds,ρ',R,e,k⟩:=hh;unfold iIt at e;split at e
 ·rename_i ks ds' ρ1 e1
  sleep 2
  obtain⟨a,o,xs,rfl,r1,r2,r3⟩:=r;have hz:(ks.zip xs).length=ks.length:=by rw[fm,<- r2,eG]
  have lx:xs.length=ds'.length:=(sq r3).symm;refine⟨a,o,_,rfl,R'.sub _ _ r1,k _ _ _ s R' λi H2 H2' t t'=>⟨λd ed=>?_,λhl=>?_⟩⟩
  ·unfold Ci at ed;rw[jP,bB]at ed;cases ek:ks[i]? with
   |none=>rw[ek]at ed;cases ed
   |some j=>
    cases ey:ds'[i]? with
    |none=>rw[ek,ey]at ed;cases ed
    |some dy=>
     rw[ek,ey]at ed;cases ed;have hi:i<ks.length:=(bW.mp ek).1;obtain⟨vy,y1,y2⟩:=uF r3 ey;refine⟨⟨by rw[hz];exact hi,t' _ _ (t _ _ r1)⟩,λx H3 y=>?_⟩;obtain⟨p,k',z,hp,rfl,rfl,hk'⟩:=y;rw[mf]at hk';have a1:=hk'.1;have a2:=hk'.2;rw[ek]at a1;rw[y1]at a2;cases a1;cases a2;have p0:H2 p=none:=by
      cases q:H2 p with
      |none=>rfl
      |some o=>have:=t' _ _ q;rw[hp]at this;cases this
     refine⟨upd H2 p (.tup [kV k',z]),sG p0 _,λb o e=>?_,sG hp _,λb o e=>?_,zt (SqT.of sr) ?_⟩
     ·by_cases hb:b=p
      ·subst hb;rw[sr]at e ⊢;exact e
      ·rw[su hb]at e ⊢;exact t' _ _ e
     ·by_cases hb:b=p
      ·subst hb;exact .inr hp
      ·rw[su hb]at e;exact .inl e
     ·have m:=t.trans (sG p0 (.tup [kV k',z]));exact sX (Mw _) (sX (Rep.mono m _ _ y2) tf)
  ·refine⟨by rw[hz,hl,JQ,ah,<- lx,<- r2,eG];exact aI _,t' _ _ (t _ _ r1)⟩
 ·cases e
end
def hold(F:Fr)(p:Addr)(o:HO):Fr:=⟨F.B0,λb=>if b=p then some o else F.B b,F.A⟩
theorem EK:(hold F p o).B p=some o:=by show (if p=p then _ else _)=_;rw[aj rfl]
theorem A9(h:b≠p):(hold F p o).B b=F.B b:=by show (if b=p then _ else _)=_;rw[ao h]
theorem BF.frame{F':Fr}(h:BF G F H0 H o s)(hA:F'.A=F.A)(hB:∀a,o=some (.ref a)->s.own=true->F.B a=none->F'.B a=none):BF G F' H0 H o s:=by
 cases s with
 |un=>trivial
 |im d=>exact h
 |ls ds=>obtain⟨a,xs,h1,h2,h3,h4,h5⟩:=h;exact⟨a,xs,h1,h2,h3,hB a h1 rfl h4,h5⟩
 |pm ds=>obtain⟨a,xs,h1,h2,h3,h4,h5⟩:=h;exact⟨a,xs,h1,h2,h3,by rw[hA];exact h4,h5⟩
 |dk ks ds=>obtain⟨a,xs,h1,h2,h3,h4,h5,h6⟩:=h;exact⟨a,xs,h1,h2,h3,hB a h1 rfl h4,h5,h6⟩
 |ob c ns ds=>obtain⟨a,dx,xs,h1,h2,h3,h4,h5,h6⟩:=h;exact⟨a,dx,xs,h1,h2,h3,by rw[hA];exact h4,h5,h6⟩
section
variable{X:Cx}{G:Bg}{F:Fr}{σ:St}{ρ:bg}{H0 H:Hp}{p:Addr}{o:HO}
theorem sL.hold(R:sL G F σ ρ H0 H)(hp:H p=none)(o:HO):sL G (L4.hold F p o) σ ρ H0 (upd H p o) where
 sub:=(R.newOwn hp o).sub
 g0:=R.g0
 keep:=λb u e n=>by
  by_cases hb:b=p
  ·subst hb;rw[EK]at e;rw[sr];exact e
  ·rw[A9 hb]at e;exact(R.newOwn hp o).keep b u e n
 fr:=λb u e=>by
  have hb:b≠p:=λz=>by subst z;rw[R.h0none hp]at e;cases e
  rw[A9 hb];exact R.fr b u e
 am:=(R.newOwn hp o).am
 len:=R.len
 sl:=λi s e=>by refine BF.frame ((R.newOwn hp o).sl i s e) rfl λa h1 so hB=>?_;obtain⟨a',u,q1,q2,_⟩:=(R.sl i s e).at so;rw[h1]at q1;cases q1;rw[A9 (λz=>by subst z;rw[hp]at q2;cases q2)];exact hB
 ap:=R.ap
theorem sL.unhold(R:sL G (L4.hold F p o) σ ρ H0 H)(hB:F.B p=none):sL G F σ ρ H0 H where
 sub:=R.sub
 g0:=R.g0
 keep:=λb u e n=>R.keep b u (by rw[A9 (λz=>by subst z;rw[hB]at e;cases e)];exact e) n
 fr:=λb u e=>by
  rcases R.fr b u e with z|z
  ·exact .inl z
  ·by_cases hb:b=p
   ·subst hb;exact .inr hB
   ·rw[A9 hb]at z;exact .inr z
 am:=R.am
 len:=R.len
 sl:=λi s e=>BF.frame (R.sl i s e) rfl λa h1 so q=>by
  by_cases hb:a=p
  ·subst hb;exact hB
  ·rw[A9 hb]at q;exact q
 ap:=R.ap
theorem sL.layHeld(R:sL G (L4.hold F p o) σ ρ H0 H)(hB:F.B p=none)(h0:H0 p=none)(nA:p∉F.A)(u:HO):sL G F σ ρ (upd H0 p u) (upd H p u) where
 sub:=λb v e=>by
  by_cases hb:b=p
  ·subst hb;rw[sr]at e ⊢;exact e
  ·rw[su hb]at e ⊢;exact R.sub _ _ e
 g0:=(sL.unhold R hB).g0.trans (sG h0 u)
 keep:=λb v e n=>by rw[su (λz=>by subst z;rw[hB]at e;cases e)];exact(sL.unhold R hB).keep b v e n
 fr:=λb v e=>by
  by_cases hb:b=p
  ·subst hb;exact .inr hB
  ·rw[su hb]at e;exact(sL.unhold R hB).fr _ _ e
 am:=λb hb=>by
  have hb':b≠p:=λz=>by subst z;exact nA hb
  rw[su hb'];exact R.am b hb
 len:=R.len
 sl:=λj t e=>by
  have ne:∀a,(σ[j]?).join=some (.ref a)->t.own=true->a≠p:=λa z to y=>by
   subst y;obtain⟨a',v,q1,_,_,q4⟩:=(R.sl j t e).at to;rw[z]at q1;cases q1;rcases q4 with q|q
   ·rw[EK]at q;cases q
   ·exact nA q
  refine((sL.unhold R hB).sl j t e).grow (sG h0 u) (λa v z to q=>?_) λa v z to q q0=>?_
  ·rw[su (ne a z to)];exact q
  ·rw[su (ne a z to)];exact q0
 ap:=R.ap
def w5:List (Str×FE)->bg->Option (aT×bg)
 |[],ρ=>some ([],ρ)
 |(_,f)::r,ρ=>match f ρ with
  |some (d,ρ1)=>match w5 r ρ1 with
   |some (ds,ρ2)=>some (d::ds,ρ2)
   |none=>none
  |none=>none
def Qf(G:Bg)(kfs:List (Str×FE)):List (TE×TE):=kfs.map λq=>(tC (.str q.1),tF G q.2)
theorem JW:∀(kfs:List (Str×FE)) (ρ ρ':bg) (ds:aT) (H0 H:Hp) (Q:List (V×V)->Hp->Prop),sL G F σ ρ H0 H->w5 kfs ρ=some (ds,ρ')->
  (∀vs H1 H1',sA H0 H1->sL G F σ ρ' H1 H1'->sj G H1 ds vs->Q (dj (λk v=>(V.str k,v)) (kfs.map (·.1)) vs) H1')->Il (Qf G kfs) σ H Q
 |[],ρ,ρ',ds,H0,H,Q,R,e,k=>by cases e;exact k [] H0 H (sA.refl _) R tf
 |(x,f)::r,ρ,ρ',ds,H0,H,Q,R,e,k=>by
  unfold w5 at e;cases e1:f ρ with
  |none=>simp only[e1]at e;cases e
  |some q=>
   obtain⟨d,ρ1⟩:=q;simp only[e1]at e;cases e2:w5 r ρ1 with
   |none=>simp only[e2]at e;cases e
   |some q=>obtain⟨ds',ρ2⟩:=q;simp only[e2]at e;cases e;refine⟨F,ρ,H0,d,ρ1,R,e1,λv H1 H1' s R1 rv=>?_⟩;exact JW r ρ1 _ ds' H1 H1' _ R1 e2 λvs H2 H2' s2 R2 rs=>k (v::vs) H2 H2' (s.trans s2) R2 (sX (Rep.mono s2 _ _ rv) rs)
theorem JX:∀(more acc:List (Key×V)),((acc++more).map (·.1)).Nodup->An acc more=acc++more
 |[],acc,_=>by rw[bz];rfl
 |q::r,acc,h=>by
  have nq:(acc.any λkv=>decide (kv.1=q.1))=false:=by rw[iR];intro z;obtain⟨y,hy,ey⟩:=fQ.mp z;rw[bj,cc]at h;exact h.2.2 y.1 (cA hy) q.1 (cA aY) (bu ey)
  have e:putK acc q.1 q.2=acc++[q]:=by unfold putK;rw[nq];rfl
  show An (putK acc q.1 q.2) r=_;rw[e,JX r (acc++[q]) (by simpa using h)];simp
theorem N1:upd (upd H p x) p y=upd H p y:=by
 funext b
 by_cases hb:b=p
 ·subst hb;rw[sr,sr]
 ·rw[su hb,su hb,su hb]
def za(kfs:List (Str×FE)):FE:=λρ=>match w5 kfs ρ with
 |some (ds,ρ')=>some (.dic (kfs.map λq=>Sum.inr q.1) ds,ρ')
 |none=>none
theorem Fw:∀{kfs:List (Str×FE)} {ρ ρ':bg} {ds:aT},w5 kfs ρ=some (ds,ρ')->ds.length=kfs.length
 |[],ρ,ρ',ds,e=>by cases e;rfl
 |(x,f)::r,ρ,ρ',ds,e=>by
  unfold w5 at e;cases e1:f ρ with
  |none=>simp only[e1]at e;cases e
  |some q=>
   obtain⟨d,ρ1⟩:=q;simp only[e1]at e;cases e2:w5 r ρ1 with
   |none=>simp only[e2]at e;cases e
   |some q=>obtain⟨ds',ρ2⟩:=q;simp only[e2]at e;cases e;rw[aH,aH,Fw e2]
theorem JY:∀(ks:aF) (vs:bI),dj (λk v=>(V.str k,v)) ks vs=((ks.map λk=>(Sum.inr k:Key)).zip vs).map λkv=>(kV kv.1,kv.2)
 |[],vs=>rfl
 |k::ks,[]=>rfl
 |k::ks,v::vs=>by show (V.str k,v)::_=_;rw[JY ks vs];rfl
theorem Mx(h:PE X e (OV (Qf G kfs)))(nd:(kfs.map λq=>(Sum.inr q.1:Key)).Nodup)(h15:kfs.length<=15):PE X e (tF G (za kfs)):=PE.weak (PE.ghost h) λσ H Q hh=>by
 sleep 5
 unfold za at e;cases e1:w5 kfs ρ with
 |none=>simp only[e1]at e;cases e
 |some q=>
  obtain⟨ds,ρ1⟩:=q;simp only[e1]at e;cases e;intro p hp;have hB:F.B p=none:=R.bNone hp;have nA:p∉F.A:=λz=>by obtain⟨u,q⟩:=R.am p z;rw[hp]at q;cases q
  refine JW kfs ρ _ ds H0 _ _ (sL.hold R hp (.dK [])) e1 λvs H1 H1' s R1 rs=>?_;have q0:H1' p=some (.dK []):=R1.keep p _ EK nA;have h0:H1 p=none:=by
   cases q:H1 p with
   |none=>rfl
   |some u=>
    rcases R1.fr p u q with z|z
    ·have:=R.g0 _ _ z;rw[R.h0none hp]at this;cases this
    ·rw[EK]at z;cases z
  have lv:(kfs.map λq=>(Sum.inr q.1:Key)).length=vs.length:=by rw[ah,<- Fw e1,sq rs]
  have kn:(((kfs.map λq=>(Sum.inr q.1:Key)).zip vs).map (·.1))=kfs.map λq=>(Sum.inr q.1:Key):=nV (by rw[lv];exact aI _)
  refine⟨q0,(kfs.map λq=>(Sum.inr q.1:Key)).zip vs,?_,?_,.inr ⟨p,_,sr,λob=>?_⟩⟩
  ·rw[JY,aZ];rfl
  ·rw[fm,<- lv,eG,ah];exact h15
  ·rw[N1,JX _ [] (by rw[bP,kn];exact nd),bP];refine k _ _ _ (s.trans (sG h0 _)) (sL.layHeld R1 hB h0 nA _) ?_;unfold Rep;exact⟨p,ob,vs,rfl,sr,lv,sj.mono (sG h0 _) _ _ rs⟩
end
def spL(G:Bg)(g:aT->aT->Option (D×aT)):Sp:=λvs H Q E=>∃(a:Addr) (us:bI),vs=us++[.ref a]/\spM G g (.ref a::us) H Q E
def stL(n:Nat)(es ds:aT):bg:=ds.map Sl.im++.pm es::eE (n - ds.length - 1) .un
def JZ(i:Nat)(ρ:bg):Option aT:=match ρ[i]? with
 |some (.pm es)=>some es
 |_=>none
def fnL(np n:Nat)(f:FS):aT->aT->Option (D×aT):=λes ds=>if ds.length=np then match f (stL n es ds)with
 |some (.rt d ρ)=>match JZ np ρ with
  |some es'=>some (d,es')
  |none=>none
 |some (.rn xs ρ)=>match JZ np ρ with
  |some es'=>some (.lst xs,es')
  |none=>none
 |_=>none
 else none
theorem Do(h:JZ i ρ=some es):ρ[i]?=some (.pm es):=by
 unfold JZ at h;split at h
 ·rename_i e;cases h;exact e
 ·cases h
theorem J0(h:fnL np n f es ds=some (d,es')):ds.length=np/\((∃ρ,f (stL n es ds)=some (.rt d ρ)/\ρ[np]?=some (.pm es'))\/∃xs ρ,f (stL n es ds)=some (.rn xs ρ)/\ρ[np]?=some (.pm es')/\d=.lst xs):=by
 unfold fnL at h;split at h
 ·rename_i hl;refine⟨hl,?_⟩;split at h
  ·rename_i x ρ e;cases e2:JZ np ρ with
   |none=>simp only[e2]at h;cases h
   |some q=>simp only[e2]at h;cases h;exact .inl ⟨ρ,e,Do e2⟩
  ·rename_i x ρ e;cases e2:JZ np ρ with
   |none=>simp only[e2]at h;cases h
   |some q=>simp only[e2]at h;cases h;exact .inr ⟨x,ρ,e,Do e2,rfl⟩
  ·cases h
 ·cases h
theorem ID(h:(stL n es ds)[i]?=some t):(i=ds.length/\t=.pm es)\/t=.un\/∃d,ds[i]?=some d/\t=.im d:=by
 unfold stL at h;by_cases hi:i<ds.length
 ·rw[cW (by simpa using hi),bB,aP hi]at h;cases h;exact .inr (.inr ⟨_,aP hi,rfl⟩)
 ·rw[cI (by simpa using hi),ah]at h;cases q:i - ds.length with
  |zero=>rw[q]at h;cases h;exact .inl ⟨by omega,rfl⟩
  |succ m=>
   rw[q,iJ,fL]at h;split at h
   ·cases h;exact .inr (.inl rfl)
   ·cases h
section
variable{X:Cx}{G:Bg}
theorem Tq{N:aF}(ha:H a=some (.lst xs))(h0:H0 a=none)(s:sA H0 H)(r1:sj G H0 es xs)(r:sj G H0 ds us)(hN:us.length+1<=N.length):sL G ⟨H0,H,[a]⟩ (L2.start N (us++[.ref a])) (stL N.length es ds) H0 H:={
  sub:=s
  g0:=sA.refl _
  keep:=λb o e _=>e
  fr:=λb o e=>.inl e
  am:=λb hb=>by rw[aR]at hb;subst hb;exact⟨_,ha⟩
  len:=by unfold L2.start stL;simp only[aC,ah,cp,aH,c6];have:=sq r;omega
  sl:=λi t e=>by
   rcases ID e with ⟨rfl,rfl⟩|rfl|⟨d,e1,rfl⟩
   ·exact⟨a,xs,vL (by rw[sq r,cI (aI _),jh];rfl),ha,h0,aR.mpr rfl,r1⟩
   ·trivial
   ·obtain⟨v,e2,e3⟩:=uF r e1;exact⟨v,vL (by rw[cW (bW.mp e2).1];exact e2),e3⟩
  ap:=λi j t u b hij ei ej ht hu=>by
   rcases ID ei with ⟨rfl,rfl⟩|rfl|⟨_,_,rfl⟩
   ·rcases ID ej with ⟨rfl,rfl⟩|rfl|⟨_,_,rfl⟩
    ·exact au rfl hij
    ·cases hu
    ·cases hu
   ·cases ht
   ·cases ht }
theorem Tr{N:aF}(hN:np+1<=N.length)(h:spL G (fnL np N.length f) vs H Q E):tFS G f { nx:=λ_ H'=>Q .non H',rt:=Q } (L2.start N vs) H:=by
 obtain⟨a,us,rfl,b,us',xs,H0,es,ds,d,es',e0,ha,h0,s,r1,r,e,k⟩:=h;cases e0;obtain⟨hl,e1⟩:=J0 e;have R:=Tq (N:=N) ha h0 s r1 r (by rw[<-sq r,hl];exact hN);have fin:∀{v:V} {σ':St} {ρ':bg} {H0' H':Hp},sA H0 H0'->sL G ⟨H0,H,[a]⟩ σ' ρ' H0' H'->ρ'[np]?=some (.pm es')->Rep G H0' d v->Q v H':=λs' R' e2 rv=>by obtain⟨a',ys,q1,q2,q3,q4,q5⟩:=R'.sl np _ e2;have ea:a'=a:=aR.mp q4;subst ea;exact k _ ys _ _ s' R'.sub (λb o e n=>R'.keep b o e (λz=>n (aR.mp z))) R'.fr q3 q2 q5 rv
 rcases e1 with ⟨ρ,e1,e2⟩|⟨zs,ρ,e1,e2,rfl⟩
 ·exact⟨_,_,H0,_,R,e1,λv σ' H0' H' s' R' rv=>fin s' R' e2 rv,λ_=>rfl⟩
 ·refine⟨_,_,H0,_,R,e1,λp ys σ' H0' H' s' R' hp hp0 hb ap rs=>?_,λ_=>rfl⟩;exact fin (s'.trans (sG hp0 _)) (R'.freeze hp hp0 hb ap) e2 (yB sr (sj.mono (sG hp0 _) _ _ rs))
theorem aab(hg:∀es ds d,g es ds=some d->ds.length=np):∀vs H Q E,spL G g vs H Q E->vs.length=np+1:=λvs H Q E h=>by obtain⟨a,us,rfl,h⟩:=h;have:=Pi hg _ _ _ _ h;rw[aC];exact this
theorem Ts:∀es ds d,fnL np n f es ds=some d->ds.length=np:=λ_ _ d h=>(J0 (d:=d.1) (es':=d.2) h).1
def Lo(G:Bg)(i:Nat)(a:FA):TA:=λσ H Q=>∃F ρ H0 ds ρ' es,sL G F σ ρ H0 H/\a ρ=some (ds,ρ')/\uq ρ' i=some es/\∀xs b H0' H',sA H0 H0'->sL G F σ ρ' H0' H'->sj G H0' ds xs->σ[i]?=some (some (.ref b))->Q (xs++[.ref b]) H'
theorem Qg(hv:PE X e (yL i))(hs:aA [e] X.env=[(false,eval e X.env)]:=by rfl):PA X [e] (Lo G i sI):=PA.weak (uD hv yc hs) λσ H Q hh=>by obtain⟨F,ρ,H0,ds,ρ',es,R,e,el,k⟩:=hh;cases e;obtain⟨b,xs,s1,_⟩:=uJ R el;exact⟨.ref b,s1,k [] b _ _ (sA.refl _) R tf s1⟩
theorem N2(ha:PE X e (tF G f))(hr:PA X es (Lo G i g))(hs:aA (e::es) X.env=(false,eval e X.env)::aA es X.env:=by rfl):PA X (e::es) (Lo G i (rV f g)):=PA.weak (uD ha hr hs) λσ H Q hh=>by obtain⟨F,ρ,H0,d,ρ',es,R,e,el,k⟩:=hh;obtain⟨x,r,ρ1,e1,e2,rfl⟩:=zv e;exact⟨F,ρ,H0,x,ρ1,R,e1,λv H1 H1' s R' rv=>⟨F,ρ1,H1,r,ρ',es,R',e2,el,λxs b H2 H2' s2 R2 rs sb=>k _ _ _ _ (s.trans s2) R2 (sX (Rep.mono s2 _ _ rv) rs) sb⟩⟩
def uc(g:aT->aT->Option (D×aT))(i:Nat)(a:FA):FE:=λρ=>match a ρ with
 |some (ds,ρ1)=>match uq ρ1 i with
  |some es=>match g es ds with
   |some (d,es')=>some (d,putAt ρ1 i es')
   |none=>none
  |none=>none
 |none=>none
theorem Tt(h:PE X e (Al (spL G g) [] E (Lo G i a))):PE X e (tF G (uc g i a)):=PE.weak h λσ H Q hh=>by
 sleep 5
 unfold uc at e;rcases sW (f:=a) (ρ:=ρ)with e1|⟨ds,ρ1,e1⟩<;>simp only[e1]at e
 ·cases e
 ·cases e2:uq ρ1 i with
  |none=>simp only[e2]at e;cases e
  |some es=>
   simp only[e2]at e;cases e3:g es ds with
   |none=>simp only[e3]at e;cases e
   |some q=>obtain⟨d1,es'⟩:=q;simp only[e3]at e;cases e;refine⟨F,ρ,H0,ds,ρ1,es,R,e1,e2,λys b H1 H1' s R' rs sb=>?_⟩;obtain⟨s,es0,es1⟩:=vM e2;obtain⟨b',xs',t1,t2,t3,t4⟩:=(R'.sl i s es0).lst es1;rw[vz t1]at sb;cases sb;refine⟨b,ys,bz _,b,ys,xs',H1,es,ds,d,es',rfl,t2,t3,R'.sub,t4,rs,e3,λv zs H2 H2' u1 u2 u3 fr w0 w1 w2 w3=>?_⟩;refine k _ _ _ (sA.trans ‹sA H0 H1› u1) ?_ w3;unfold putAt;rw[es0];exact R'.call1 es0 es1 t1 u1 u2 u3 fr w0 w1 w2
theorem Tu(D:y8 X.prog X.w X.K X.mg X.base k x ps (spL G g))(hr:uy k X.A)(ha:PA X (e::es) (Lo G i a))(hg:Gl X x:=by rfl)(hdb:(x==("__debug__" : Str))=false:=by decide)(he:aA (e::es) X.env=(false,eval e X.env)::aA es X.env:=by rfl)(hpl:(bD pos (aA es X.env)).any (·.1)=false:=by rfl):
  PE X (.Call (.Name x p) (e::es) [] pos) (tF G (uc g i a)):=by
 obtain⟨f,fd,h1,h2,h3,h4⟩:=D;exact Tt (B3 (p:=p) (pos:=pos) h4 hr hg h1 h2 h3 .nil DL ha hdb he hpl)
def BN(i:Nat)(f:FE):FE:=λρ=>match uq ρ i with
 |some _=>match f ρ with
  |some (.int k,ρ1)=>match uq ρ1 i with
   |some ds=>if 0<=k then match ds[k.toNat]? with
    |some d=>if k<1000000 then some (d,putAt ρ1 i (ds.eraseIdx k.toNat))else none
    |none=>none
    else none
   |none=>none
  |_=>none
 |none=>none
theorem Fy:∀{H:Hp} {ds:aT} {xs:bI} (n:Nat),sj G H ds xs->sj G H (ds.eraseIdx n) (xs.eraseIdx n)
 |H,[],xs,n,h=>by unfold sj at h;subst h;exact tf
 |H,d::ds,xs,0,h=>by unfold sj at h;obtain⟨v,r,rfl,h1,h2⟩:=h;exact h2
 |H,d::ds,xs,n+1,h=>by unfold sj at h;obtain⟨v,r,rfl,h1,h2⟩:=h;exact sX h1 (Fy n h2)
theorem Qh(h:PE X e (tBM G.K "list" KZ (yL i) (tFA G (rV f sI)))):PE X e (tF G (BN i f)):=PE.weak h λσ H Q hh=>by
 sleep 5
 unfold BN at e;cases e0:uq ρ i with
 |none=>simp only[e0]at e;cases e
 |some ds0=>
  simp only[e0]at e;split at e
  ·rename_i n ρ1 e1;cases e2:uq ρ1 i with
   |none=>simp only[e2]at e;cases e
   |some ds=>
    simp only[e2]at e;split at e
    ·rename_i hn;cases e3:ds[n.toNat]? with
     |none=>simp only[e3]at e;cases e
     |some d'=>
      simp only[e3]at e;split at e
      ·rename_i hb;cases e;obtain⟨a,xs,s1,s2,s3,_⟩:=uJ R e0;refine⟨.ref a,s1,.inl ⟨rfl,xs,SqL.of s2⟩,F,ρ,H0,[.int n],ρ1,R,by unfold rV;rw[e1];rfl,λys H1 H1' s R' rs=>?_⟩;unfold sj at rs;obtain⟨v,r0,rfl,rv,rn⟩:=rs;unfold sj at rn;unfold Rep at rv;subst rn rv;obtain⟨a',xs',t1,t2,t3,t4⟩:=uJ R' e2;rw[s1]at t1;cases t1;obtain⟨y,y1,y2⟩:=uF t3 e3;have hlt:=(bW.mp y1).1;exact⟨a,xs',n,n.toNat,y,rfl,rfl,t2,by omega,by omega,kP hn (by omega),y1,k _ _ _ s (t4 _ _ (Fy _ t3)) y2⟩
      ·cases e
    ·cases e
  ·cases e
end
section
variable{P:aV}{w:aL}{K:ay}{mg:Str->Option ae}{base:Heap}{x qual:Str}{st:Stmt}{f T:Addr}{fd:cb}{N ps:aF}{k:Nat}{G:Bg}
theorem aac(hg:g=fnL np n b)(hp:ps.length=np+1)(hN:N.length=n)(F:Fun K x qual st f fd)(S:uu N ps (sM st))(body:∀(cdv:ae) (A:aS) (outer:List Env) (s:ag) (H:Hp) (E:XK),uy k (A.deeper (envOfC qual (sM st) s.heap.objs.size f cdv))->PSs (Bs P w K mg base N qual st f cdv A outer s H E) (tG st) (tFS G b)):
  wx P w K mg base CX0 (k+1) f fd ps (spL G g):=by
 subst hg hN;refine F.ok S (λvs H Q E h=>?_) λcdv A outer s H vs Q E hr h=>⟨_,body cdv A outer s H E hr,Tr (by have:=aU bY S.pre;rw[bw]at this;omega) h⟩;rw[hp];exact aab Ts vs H Q E h
end
end L4
namespace L4
open PySem PySem.Spec PySem.Calls PyProof.Rows PySem.W L2 L3
def N3{α:Type}(c:Nat->Nat->Bool):KasT α->α
 |.ret a=>a
 |.ask i j k=>N3 c (k (c i j))
def w6{α:Type}(P:Nat->Nat->Prop)(R:α->Prop):KasT α->Prop
 |.ret a=>R a
 |.ask i j k=>P i j/\∀b,w6 P R (k b)
theorem w6.run{α:Type}{P:Nat->Nat->Prop}{R:α->Prop}(c:Nat->Nat->Bool):∀(t:KasT α),w6 P R t->R (N3 c t)
 |.ret a,h=>h
 |.ask i j k,h=>w6.run c (k (c i j)) (h.2 (c i j))
theorem w6.bind{α β:Type}{P:Nat->Nat->Prop}{R:α->Prop}{S:β->Prop}{f:α->KasT β}(hf:∀a,R a->w6 P S (f a)):∀{t:KasT α},w6 P R t->w6 P S (t.bind f)
 |.ret a,h=>hf a h
 |.ask i j k,h=>⟨h.1,λb=>w6.bind hf (h.2 b)⟩
theorem My{α:Type}{cmp:Nat->Nat->(Bool->ag->Prop)->ag->Prop}{c:Nat->Nat->Bool}{P:Nat->Nat->Prop}{s:ag}{Q:α->ag->Prop}(hc:∀i j C,P i j->C (c i j) s->cmp i j C s):
  ∀{R:α->Prop} {t:KasT α},w6 P R t->Q (N3 c t) s->t.kasWp cmp Q s
 |R,.ret a,_,q=>q
 |R,.ask i j k,h,q=>hc i j _ h.1 (My hc (h.2 (c i j)) q)
def vt(n:Nat)(p:Array Nat):Prop:=p.toList.Perm (bH n)
theorem vt.getD(h:vt n p)(hn:0<n)(i:Nat):p.getD i 0<n:=by
 unfold Array.getD;split
 ·rename_i hi;have:p[i]∈p.toList:=by simp
  exact cB.mp (h.mem_iff.mp this)
 ·exact hn
theorem vt.rev(h:vt n p)(i j:Nat):vt n (kas_rev p i j):=by unfold vt kas_rev mirror;exact(me.mp (foldl_swaps_perm _ _ _ _)).trans h
theorem vt.bub(h:vt n p)(i j:Nat):vt n (bubble p i j):=(me.mp (bubble_perm _ _ _)).trans h
abbrev In2(n:Nat):Nat->Nat->Prop:=λi j=>i<n/\j<n
theorem IE(hn:0<n)(h:vt n p):∀f k,w6 (In2 n) (λ_=>True) (kas_asc p f k)
 |0,k=>trivial
 |f+1,k=>⟨⟨h.getD hn _,h.getD hn _⟩,λb=>by cases b<;>first|exact trivial|exact IE hn h f (k+1)⟩
theorem Ck(hn:0<n):∀f (p:Array Nat) k q,vt n p->w6 (In2 n) (λr=>vt n r.1) (kas_desc f p k q)
 |0,p,k,q,h=>h
 |f+1,p,k,q,h=>⟨⟨h.getD hn _,h.getD hn _⟩,λb=>by
   cases b with
   |true=>
    show w6 _ _ (if q > 0 then _ else _);split
    ·exact Ck hn f _ _ _ (h.rev _ _)
    ·exact Ck hn f _ _ _ h
   |false=>
    refine⟨⟨h.getD hn _,h.getD hn _⟩,λd=>?_⟩;cases d with
    |true=>exact h
    |false=>exact Ck hn f _ _ _ h⟩
theorem J1(hn:0<n)(h:vt n p)(k m:Nat):w6 (In2 n) (λr=>vt n r.2) (kas_tail3 k m p):=
 w6.bind (P:=In2 n) (R:=λ_=>True) (S:=λ(r:Nat×Array Nat)=>vt n r.2) (f:=λm=>.ret (m,kas_rev p 0 k)) (λa _=>h.rev 0 k) (IE hn (h.rev 0 k) _ _)
theorem Cn(hn:0<n)(h:vt n p)(k m:Nat):w6 (In2 n) (λr=>vt n r.2) (kas_descPart k m p):=
 w6.bind (λr hr=>by
  show w6 _ _ (if r.2.2 > 0 then _ else _);split
  ·exact J1 hn (hr.rev _ _) _ _
  ·exact J1 hn hr _ _) (Ck hn _ p _ _ h)
theorem N4(hn:0<n)(h:vt n p)(m:Nat):w6 (In2 n) (λr=>vt n r.2) (kas_count m p):=
 w6.bind (λk _=>by
  show w6 _ _ (if (k==m)=true then _ else _);split
  ·exact h
  ·split
   ·refine⟨⟨h.getD hn _,h.getD hn _⟩,λb=>?_⟩;cases b with
    |true=>exact h
    |false=>exact Cn hn (h.rev _ _) _ _
   ·exact Cn hn h _ _) (IE hn h _ _)
theorem Dp(hn:0<n)(h:vt n p)(k:Nat):∀f l r,w6 (In2 n) (λ_=>True) (kas_place p k f l r)
 |0,l,r=>trivial
 |f+1,l,r=>by
  unfold kas_place;split
  ·trivial
  ·refine⟨⟨h.getD hn _,h.getD hn _⟩,λb=>?_⟩;cases b with
   |true=>exact Dp hn h k f _ _
   |false=>exact Dp hn h k f _ _
theorem Mz(hn:0<n):∀f (p:Array Nat) k,vt n p->w6 (In2 n) (vt n) (kas_bin f p k)
 |0,p,k,h=>h
 |f+1,p,k,h=>w6.bind (λl _=>Mz hn f _ _ (h.bub _ _)) (Dp hn h k _ _ _)
theorem FB(hn:0<n):w6 (In2 n) (vt n) (jq n):=
 w6.bind (λr hr=>by
  show w6 _ _ (if r.1<n then _ else _);split
  ·exact Mz hn _ _ _ hr
  ·exact hr) (N4 hn (p:=List.toArray (bH n)) (by unfold vt;exact km _) n)
def Cp(a:Addr)(h h':Heap):Prop:=∀b o,b≠a->h.get? b=some o->h'.get? b=some o
section
variable{prog:aV}{w:aL}{A:aS}{E:ae->ag->Prop}{s:ag}
def Dr(c:Nat->Nat->Bool)(vs:List ae):List ae:=(N3 c (jq vs.length)).toList.map λi=>vs.getD i Value.none
theorem Qi(c:Nat->Nat->Bool)(vs:List ae)(h:0<vs.length):(Dr c vs).length=vs.length:=by unfold Dr;rw[ah];have:=(FB h).run c _;rw[this.length_eq,gV]
theorem Qj(c:Nat->Nat->Bool)(v:ae):Dr c [v]=[v]:=rfl
theorem Qk{vs:List ae}(ho:s.heap.get? a=some (seqObj "list" vs.toArray n))(h1:0<vs.length)(h64:vs.length<64)
  (hk:∀(h':Heap) (C:SortKind->ag->Prop),Cp a s.heap h'->C κ { s with heap:=h' }->ai (model prog w) A (keyKind' vs.toArray) C (λ_ _=>False) { s with heap:=h' })
  (hc:∀(h':Heap) (i j:Nat) (C:Bool->ag->Prop),Cp a s.heap h'->i<vs.length/\j<vs.length->C (c i j) { s with heap:=h' }->kas_ask prog w A κ vs i j C { s with heap:=h' })
  (h:∀h' e,Cp a s.heap h'->h'.get? a=some (seqObj "list" (Dr c vs).toArray e)->P (.done (.ret .none)) { s with heap:=h' }):
  ai (model prog w) A (eK.«list.sort» ⟨[.ref a],[]⟩) P E s:=by
 have ha:a<s.heap.objs.size:=aQ ho;obtain⟨e1,o1⟩:∃e1,(s.heap.update a (c8 λ_=>(#[]:Array ae))).get? a=some (seqObj "list" #[] e1):=⟨_,n9 ho λ_=>#[]⟩;generalize hw:((s.heap.update a (c8 λ_=>(#[]:Array ae))).push (seqObj "tuple" vs.toArray 0)).push (seqObj "list" #[] 0)=h3;have kb:Cp a s.heap h3:=λb o hb q=>by rw[<-hw];exact aM _ (aM _ ((gA s.heap _ (c9 hb)).trans q))
 have o3:h3.get? a=some (seqObj "list" #[] e1):=by rw[<-hw];exact aM _ (aM _ o1)
 rw[list_sort_plain];refine aq (listItems_at ho rfl (aq (kz ho rfl ?_ (by rw[bp,bR];omega) (cu _))));refine aq (kR o1 rfl (aq (wpAny_newTuple ?_ (by show vs.length<=_;rw[bR];omega))));refine aq (kA (cM ?_) (cu _));show ai (model prog w) A _ P E { s with heap:=((s.heap.update a (c8 λ_=>(#[]:Array ae))).push (seqObj "tuple" vs.toArray 0)).push (seqObj "list" #[] 0) };rw[hw];dsimp only;obtain⟨c2,hc2⟩:∃c2,(h3.update a (c8 λ_=>(Dr c vs).toArray)).get? a=some (seqObj "list" (Dr c vs).toArray c2):=⟨_,n9 o3 λ_=>(Dr c vs).toArray⟩;have fin:=h _ c2 (λb o hb q=>(gA h3 _ (c9 hb)).trans (kb b o hb q)) hc2;have szo:(Dr c vs).toArray.size<=aJ+1:=by rw[bp,Qi c vs h1,bR];omega
 by_cases h2:2<=vs.length
 ·have hn2:¬vs.toArray.size<2:=by rw[bp];omega
  rw[ao hn2,ao hn2];refine aq (bZ (hk h3 (λk s'=>k=κ/\s'={ s with heap:=h3 }) kb ⟨rfl,rfl⟩) ?_ λ_ _ x=>x.elim);rintro k s' ⟨rfl,rfl⟩;refine aq (bZ (kat_run (Q:=λst' s'=>s'={ s with heap:=h3 }/\(arrOf st').map (·.2)=(Dr c vs).toArray/\failedOf st'=none) (G:=λp s'=>p=N3 c (jq vs.length)/\s'={ s with heap:=h3 }) rfl h2 h64 ?_ ?_) ?_ λ_ _ e=>e)
  ·rintro p st' s' _ har hf ⟨rfl,rfl⟩;exact⟨rfl,kat_snds rfl har,hf⟩
  ·exact My (P:=In2 vs.length) (λi j C q r=>hc h3 i j C kb q r) (FB h1) ⟨rfl,rfl⟩
  ·rintro⟨⟨⟩,st'⟩ s' ⟨rfl,ha2,hf⟩;dsimp only;refine aq (kR o3 rfl ?_);rw[ha2,hf];refine aq (kz o3 rfl ?_ (cu _) szo);simp only[bne_self_eq_false,eY,if_false];exact aB fin
 ·obtain⟨v,rfl⟩:∃v,vs=[v]:=by
   cases vs with
   |nil=>cases h1
   |cons v r=>
    cases r with
    |nil=>exact⟨v,rfl⟩
    |cons x y=>exact au (by simp) h2
  refine aq (aB ?_);refine aq (aB ?_);refine aq (kR o3 rfl ?_);have eo:pC (λx=>x.snd) (arrOf ((),SortSt.mk' general' (#[v].zip #[v]) #[] 7 none).snd)=(Dr c [v]).toArray:=by rw[Qj];show pC (λx=>x.snd) (#[v].zip #[v])=#[v];simp
  rw[eo];refine aq (kz o3 rfl ?_ (cu _) szo);simp only[bne_self_eq_false,eY,if_false];exact aB fin
theorem Lp{vs:List ae}(hT:T="list" \/ T="tuple")(ho:s.heap.get? l=some o)(hcl:o.cls=.type T)(hd:o.data=.seq vs.toArray n)(h1:0<vs.length)(h64:vs.length<64)
  (hk:∀(h':Heap) (C:SortKind->ag->Prop),(∀b o,s.heap.get? b=some o->h'.get? b=some o)->C κ { s with heap:=h' }->ai (model prog w) A.in1.in1 (keyKind' vs.toArray) C (λ_ _=>False) { s with heap:=h' })
  (hc:∀(h':Heap) (i j:Nat) (C:Bool->ag->Prop),(∀b o,s.heap.get? b=some o->h'.get? b=some o)->i<vs.length/\j<vs.length->C (c i j) { s with heap:=h' }->kas_ask prog w A.in1.in1 κ vs i j C { s with heap:=h' })
  (h:∀(g h':Heap) e,(∀b o,s.heap.get? b=some o->g.get? b=some o)->(∀b o,g.get? b=some o->h'.get? b=some o)->h'.get? g.objs.size=some (seqObj "list" (Dr c vs).toArray e)->Q (.ref g.objs.size) { s with heap:=h' }):
  ai (model prog w) A (call (.builtin "sorted") [.ref l]) Q E s:=by
 refine mh kind_sorted plain_sorted entry_sorted (args_sorted1 _) ?_;unfold eK.«sorted»;refine aq (m:=checkCount "sorted" 1 1 _) (aB (aq (wpAny_collect_seq l hT ho hcl hd (λg gk=>?_) (by rw[bR];simp;omega))));refine aq (kA ?_ (by rw[bR];simp;omega));show ai _ _ _ _ _ { s with heap:=g.push (seqObj "list" vs.toArray 0) };have on:(g.push (seqObj "list" vs.toArray 0)).get? g.objs.size=some (seqObj "list" vs.toArray 0):=bF _ rfl;have all:∀h',Cp g.objs.size (g.push (seqObj "list" vs.toArray 0)) h'->∀b o,g.get? b=some o->h'.get? b=some o:=λh' kb b o q=>kb b o (bb (aQ q)) (aM _ q)
 show ai _ _ (do let _<-holding [Value.ref g.objs.size] _;_) _ _ _;refine aq (cM (iU oH ⟨_,on,rfl⟩ oa ?_ (oI _)));refine Qk (s:={ s with heap:=g.push (seqObj "list" vs.toArray 0) }) on h1 h64 (λh' C kb q=>hk h' C (λb o z=>all h' kb b o (gk b o z)) q) (λh' i j C kb q r=>hc h' i j C (λb o z=>all h' kb b o (gk b o z)) q r) λh' e kb q=>?_;exact⟨_,rfl,aB ⟨_,rfl,h g h' e gk (all h' kb) q⟩⟩
end
def ltS(a b:Str):Bool:=decide (a.cps.toList<b.cps.toList)
def Aw:aF->aF->Bool
 |[],[]=>false
 |[],_::_=>true
 |_::_,[]=>false
 |x::xs,y::ys=>if x=y then Aw xs ys else ltS x y
inductive uE:List ae->aF->Prop
 |nil:uE [] []
 |cons (x:Str) (t:Tok) {vs:List ae} {xs:aF} (h:uE vs xs):uE (.str x t::vs) (x::xs)
theorem uE.len(h:uE vs xs):vs.length=xs.length:=by
 induction h with
 |nil=>rfl
 |cons x t h ih=>rw[aH,aH,ih]
theorem BO:∀{xs:aF} {vs:List ae},Vals (xs.map V.str) vs->uE vs xs
 |[],vs,h=>by cases h;exact .nil
 |x::xs,vs,h=>by
  cases h with
  |cons r h'=>obtain⟨t,rfl⟩:=r;exact .cons x t (BO h')
section
open PySem.SeqAt
open PySem.AutoSeq1 (wpAny_loadPart')
open PySem.MeetsSeq PySem.MeetsSeq2 PySem.MeetsSeq3
theorem GB(l b:Addr)(is js:Array ae)(n m:Nat)(d1 d2:Option Addr)(q1 q2:Array (Option ae))(xs ys:aF)(hi:uE is.toList xs)(hj:uE js.toList ys):
  Meets (eK.«tuple.__lt__» ⟨[.ref l,.ref b],[]⟩)
   (λ_ R s=>s.heap.get? l=some { cls:=.type "tuple", dict:=d1,data:=.seq is n,slots:=q1 }/\s.heap.get? b=some { cls:=.type "tuple", dict:=d2,data:=.seq js m,slots:=q2 }/\R (.ok (.ret (.bool (Aw xs ys)))) s):=
 .of_wp λprog w A R s h=>by
  obtain⟨hp,g,d,tk,os⟩:=s;obtain⟨hl,hb,h⟩:=h;have f2:=mm;have z1:is.size=xs.length:=by rw[<-hi.len,eW]
  have z2:js.size=ys.length:=by rw[<-hj.len,eW]
  wp_walk using mE hl,mE hb,iW _ (λrest b s'=>b.1=none/\s'=⟨hp,g,d,tk,os⟩/\∃(vs ws:List ae) (xs' ys':aF),rest=vs.zip ws/\uE vs xs'/\uE ws ys'/\xs'.length+js.size=ys'.length+is.size/\R (.ok (.ret (.bool (Aw xs' ys')))) ⟨hp,g,d,tk,os⟩) _
  case turn=>
   rintro⟨y,x⟩ rest b s' ⟨hb',rfl,vs,ws,xs',ys',hz,hv,hw,hlen,hR⟩;cases hv with
   |nil=>cases hz
   |cons a t hv'=>
    cases hw with
    |nil=>cases hz
    |cons c u hw'=>
     rw[dB]at hz;obtain⟨hyx,hrest⟩:=kB hz;obtain⟨rfl,rfl⟩:=kJ hyx;simp only[aH]at hlen;unfold Aw at hR;refine aq (mY a t c u prog w _ _ ?_);by_cases hac:a=c
     ·subst hac;rw[aj rfl]at hR;simp only[beq_self_eq_true]
      wp_walk
      exact⟨rfl,rfl,_,_,_,_,hrest,hv',hw',by omega,hR⟩
     ·rw[ao hac]at hR;rw[beq_false_of_ne hac];have hri:∀(E Q),Q (.bool (decide (a.cps.toList<c.cps.toList))) (⟨hp,g,d,tk,os⟩:ag)->ai (model prog w) A.in1 (richCompare .Lt (.str a t) (.str c u)) Q E ⟨hp,g,d,tk,os⟩:=λE Q hq=>(rH hq:ai (model prog w) A.in1 (br .Lt (.str a t) (.str c u)) Q E _)
      wp_walk using hri
      exact⟨_,rfl,by simpa [ltS]using hR⟩
  case fin=>
   rintro⟨b1,b2⟩ s' ⟨hb',rfl,vs,ws,xs',ys',hz,hv,hw,hlen,hR⟩;simp only at hb';subst hb';have hq:Aw xs' ys'=decide (is.size<js.size):=by
    cases hv with
    |nil=>
     cases hw with
     |nil=>exact(aO (by simp only[c6]at hlen;omega)).symm
     |cons c u hw=>exact(ba (by simp only[c6,aH]at hlen;omega)).symm
    |cons a t hv=>
     cases hw with
     |nil=>exact(aO (by simp only[c6,aH]at hlen;omega)).symm
     |cons c u hw=>cases hz
   rw[hq]at hR
   wp_walk
   exact⟨_,rfl,by simpa [qa]using hR⟩
  case h=>exact⟨rfl,rfl,is.toList,js.toList,xs,ys,rfl,hi,hj,by omega,h⟩
end
section
variable{prog:aV}{w:aL}{A:aS}{E:ae->ag->Prop}{s:ag}
theorem Lq(hl:dP s.heap l is)(hb:dP s.heap b js)(hi:uE is.toList xs)(hj:uE js.toList ys)(hu:A.units<cLine)(h:Q (.bool (Aw xs ys)) s):
  ai (model prog w) A (br .Lt (.ref l) (.ref b)) Q E s:=by
 obtain⟨⟨c1,d1,p1,s1⟩,o1,rfl,n,rfl⟩:=id hl;obtain⟨⟨c2,d2,p2,s2⟩,o2,rfl,m,rfl⟩:=id hb;exact richCompare_meets_room (op:=.Lt) ⟨_,o1,rfl⟩ ⟨_,o2,rfl⟩ F.slot_tuple_lt F.entry_tuple_lt (F.args_tuple_lt_2 _ _) (GB l b is js n m d1 d2 s1 s2 xs ys hi hj) ⟨o1,o2,show Value.bool (Aw xs ys)≠Value.notImplemented/\Q (.bool (Aw xs ys)) s from⟨(λx=>nomatch x),h⟩⟩ hu
end
def J2(c:Nat->Nat->Bool)(n:Nat):List Nat:=(N3 c (jq n)).toList
theorem Ds(c:Nat->Nat->Bool)(h:0<n):(J2 c n).Perm (bH n):=(FB h).run c _
theorem IF(c:Nat->Nat->Bool)(h:0<n):∀i∈J2 c n,i<n:=λi hi=>cB.mp ((Ds c h).mem_iff.mp hi)
theorem Hg:∀l:aF,Aw l l=false
 |[]=>rfl
 |x::l=>by unfold Aw;rw[aj rfl];exact Hg l
theorem Hh:∀(l m:aF),xC (l.map L3.Dq.str) (m.map L3.Dq.str)=decide (l=m)
 |[],[]=>by rw[bL,xC];simp
 |[],y::m=>by rw[bL,az,xC]<;>simp
 |x::l,[]=>by rw[bL,az,xC]<;>simp
 |x::l,y::m=>by
  rw[az,az,xC,Hh l m,eqD];by_cases h1:x=y
  ·subst h1;by_cases h2:l=m
   ·subst h2;simp
   ·simp[h2]
  ·have:(x==y)=false:=beq_false_of_ne h1;rw[this];simp[h1]
theorem Hk(r:Vals xs us):∀(is:List Nat),(∀i∈is,i<xs.length)->Vals (is.map λi=>xs.getD i V.non) (is.map λi=>us.getD i Value.none)
 |[],_=>.nil
 |i::is,h=>by have hi:=h i (.head _);obtain⟨u,e,ru⟩:=r.get (aP hi);refine .cons ?_ (Hk r is λj hj=>h j (.tail _ hj));show RelV (xs.getD i V.non) (us.getD i Value.none);rw[cy,cy,e,aP hi];exact ru
section
variable{X:Cx}{G:Bg}{pins:cH}{σ:St}{H:Hp}{s:ag}
def zE(K:ay)(H:Hp)(y:V)(k:aF):Prop:=∃a b v,y=.ref a/\SqT K H a [.ref b,v]/\SqT K H b (k.map V.str)
theorem Lr(I:Inv X pins σ H s)(p:zE X.K H y k)(r:RelV y u):
  ∃a b v,u=.ref a/\dP s.heap a #[.ref b,v]/\SqT X.K H b (k.map V.str):=by
 obtain⟨a,b,v,rfl,h1,h2⟩:=p;cases r;obtain⟨its,ri,ti,_⟩:=I.tuple h1;cases ri with
 |cons q1 q2=>
  cases q1;cases q2 with
  |cons q3 q4=>cases q4;exact⟨a,b,_,rfl,ti,h2⟩
theorem seq_val(I:Inv X pins σ H s)(hq:SqL X.K H a ys\/SqT X.K H a ys):∃its,Vals ys its/\∃T o n,(T="list" \/ T="tuple")/\s.heap.get? a=some o/\o.cls=.type T/\o.data=.seq its.toArray n:=by
 rcases hq with hq|hq
 ·obtain⟨its,ri,pl,_⟩:=I.list hq;obtain⟨o,a1,a2,n,a3⟩:=pl.isList;exact⟨its,ri,_,o,n,.inl rfl,a1,a2,a3⟩
 ·obtain⟨its,ri,⟨o,a1,a2,n,a3⟩,_⟩:=I.tuple hq;exact⟨its,ri,_,o,n,.inr rfl,a1,a2,a3⟩
theorem IG(hu:X.A.units+64<cLine):ux X (.builtin "sorted") (λxs H Q=>∃(a:Addr) (ys:bI) (ks:List aF),xs=[.ref a]/\(SqL X.K H a ys\/SqT X.K H a ys)/\0<ys.length/\ys.length<64/\ks.length=ys.length/\ks.Nodup/\(∀(i:Nat) (y:V) (k:aF),ys[i]?=some y->ks[i]?=some k->zE X.K H y k)/\
  ∀p,H p=none->Q (.ref p) (upd H p (.lst ((J2 (λi j=>Aw (ks.getD i []) (ks.getD j [])) ys.length).map λi=>ys.getD i V.non)))):=by
 intro pins s σ H xs us Q I r h;obtain⟨a,ys,ks,rfl,hq,h1,h64,hkl,nd,hp,q⟩:=h;obtain⟨u,rfl,ru⟩:=vals1 r;cases ru;obtain⟨its,ri,T,ob,nn,hT,b1,b2,b3⟩:=seq_val I hq;have hl:ys.length=its.length:=ri.length;have item:∀{h':Heap},(∀b o,s.heap.get? b=some o->h'.get? b=some o)->∀i,i<its.length->∃a b v,its.getD i Value.none=.ref a/\dP h' a #[.ref b,v]/\SqT X.K H b ((ks.getD i []).map V.str)/\its[i]?=some (.ref a):=λ{h'} kk i hi=>by
  have I':Inv X pins σ H { s with heap:=h',toks:=s.toks }:=I.kept kk;have hy:i<ys.length:=by omega
  have hk:i<ks.length:=by omega
  obtain⟨u,e,ru⟩:=ri.get (aP hy);obtain⟨a,b,v,rfl,t,t2⟩:=Lr I' (hp i _ _ (aP hy) (aP hk)) ru;refine⟨a,b,v,?_,t,?_,e⟩
  ·rw[cy,e];rfl
  ·rw[cy,aP hk];exact t2
 refine Lp (κ:=tuples' false) (c:=λi j=>Aw (ks.getD i []) (ks.getD j [])) hT b1 b2 b3 (by omega) (by omega) (λh' C kk hC=>?_) (λh' i j C kk hij hC=>?_) λg h' e k1 k2 ho=>?_
 ·
  have I':Inv X pins σ H { s with heap:=h',toks:=s.toks }:=I.kept kk;have tups:∀(l:List ae),(∀v∈l,∃i,i<its.length/\its[i]?=some v)->∃fs,KatTups h' l fs/\fs.length=l.length/\∀f∈fs,∃(b:Addr) (k:aF),f=.ref b/\SqT X.K H b (k.map V.str):=λl=>by
   induction l with
   |nil=>exact λ_=>⟨[],KatTups.nil,rfl,λf hf=>by cases hf⟩
   |cons v l ih=>
    intro hv;obtain⟨fs,f1,f2,f3⟩:=ih λw hw=>hv w (.tail _ hw);obtain⟨i,hi,ei⟩:=hv v (.head _);obtain⟨a,b,w,_,⟨o,t1,t2,n,t3⟩,t4,t5⟩:=item kk i hi;rw[ei]at t5;cases t5;refine⟨.ref b::fs,KatTups.cons t1 t2 t3 (by simp) f1,by rw[aH,aH,f2],λf hf=>?_⟩;rcases aN.mp hf with rfl|hf
    ·exact⟨b,_,rfl,t4⟩
    ·exact f3 f hf
  obtain⟨fs,f1,f2,f3⟩:=tups its λv hv=>by obtain⟨i,hi,e⟩:=jS.mp hv;exact⟨i,hi,by rw[aP hi,e]⟩
  refine kat_kind (T:=.type "tuple") f1 (by omega) (λv hv=>?_) (by decide) hC;obtain⟨b,k,rfl,hb⟩:=f3 v hv;obtain⟨_,_,⟨o,t1,t2,_⟩,_⟩:=I'.tuple hb;rw[<-t2];exact(pG t1).andThen .now
 ·
  have I':Inv X pins σ H { s with heap:=h',toks:=s.toks }:=I.kept kk;obtain⟨a1,b1,v1,e1,⟨o1,g1,c1,n1,d1⟩,k1,_⟩:=item kk i hij.1;obtain⟨a2,b2,v2,e2,⟨o2,g2,c2,n2,d2⟩,k2,_⟩:=item kk j hij.2;unfold kas_ask;by_cases hne:i=j
  ·subst hne;rw[e1]at e2;cases e2;rw[e1];refine kat_lt g1 d1 g1 d1 ?_;show KatLex _ _ _ _ _ _ [(Value.ref b1,Value.ref b1),(v1,v1)] 0 _;refine lr (gX _ _ _ _ _ (kat_yes (lr (gX _ _ _ _ _ (kat_yes (kat_nil ?_))))));rw[Hg]at hC;exact hC
  ·rw[e1,e2];have kne:ks.getD i []≠ks.getD j []:=λz=>hne (by
    have hi:i<ks.length:=by omega
    have hj:j<ks.length:=by omega
    rw[cy,cy,aP hi,aP hj]at z;have pw:=mj.mp nd;rcases nG i j with y|y|y
    ·exact au z (pw i j hi hj y)
    ·exact y
    ·exact au z.symm (pw j i hj hi y))
   refine kat_lt g1 d1 g2 d2 ?_;show KatLex _ _ _ _ _ _ [(Value.ref b1,Value.ref b2),(v1,v2)] 0 _;have rp:∀{b:Addr} {k:aF},SqT X.K H b (k.map V.str)->L3.Rep X.K H (L3.Dq.tup (k.map L3.Dq.str)) (.ref b):=λh=>by unfold L3.Rep;exact⟨_,_,rfl,h,G0 _⟩
   have dp:∀l:aF,dpt (L3.Dq.tup (l.map L3.Dq.str))=1:=λl=>by unfold dpt;rw[y4]
   have eq:=O0 I' _ _ _ _ (.ref b1) (.ref b2) X.A.in1.in1 (rp k1) (rp k2) rfl rfl (by rw[dp,dp,iX,iX];omega);rw[show eqD (L3.Dq.tup ((ks.getD i []).map L3.Dq.str)) (L3.Dq.tup ((ks.getD j []).map L3.Dq.str))=false from by rw[eqD,Hh];exact aO kne]at eq;refine lr (eq _ _ _ _ (kat_no ?_));obtain⟨i1,r1,t1,_⟩:=I'.tuple k1;obtain⟨i2,r2,t2,_⟩:=I'.tuple k2;exact kat_one _ _ (Lq t1 t2 (BO r1) (BO r2) (by rw[iX,iX];omega) hC)
 ·have I1:Inv X pins σ H { s with heap:=g,toks:=s.toks }:=I.kept k1;refine⟨.ref g.objs.size,_,I1.laid (t':=s.toks) k2 (aI _) ?_,rfl,q _ (I1.hok.fresh (aI _))⟩;have hn:0<ys.length:=h1;refine⟨?_,Dr _ its,e,?_,ho⟩
  ·rw[ah,(Ds _ hn).length_eq,gV,bR];omega
  ·unfold Dr;rw[<-hl];exact Hk ri _ λi hi=>IF _ hn i hi
def Ax:aT->Option aF
 |[]=>some []
 |.str x::ds=>match Ax ds with
  |some xs=>some (x::xs)
  |none=>none
 |_=>none
def Ql:D->Option aF
 |.tup [.tup ks,_]=>Ax ks
 |_=>none
def Ay:aT->Option (List aF)
 |[]=>some []
 |d::ds=>match Ql d,Ay ds with
  |some k,some ks=>some (k::ks)
  |_,_=>none
def Hl(ds:aT):Option aT:=match Ay ds with
 |some ks=>if ks.Nodup/\0<ds.length/\ds.length<64 then some ((J2 (λi j=>Aw (ks.getD i []) (ks.getD j [])) ds.length).map λi=>ds.getD i .non)else none
 |none=>none
def FC(f:FE):FA:=λρ=>match f ρ with
 |some (.lst ds,ρ')=>match Hl ds with
  |some es=>some (es,ρ')
  |none=>none
 |_=>none
theorem zF:∀{ds:aT} {xs:bI} {l:aF},sj G H ds xs->Ax ds=some l->xs=l.map V.str
 |[],xs,l,r,e=>by cases e;unfold sj at r;exact r
 |d::ds,xs,l,r,e=>by
  cases d with
  |str x=>
   unfold Ax at e;cases e1:Ax ds with
   |none=>rw[e1]at e;cases e
   |some l'=>rw[e1]at e;cases e;unfold sj at r;obtain⟨v,r',rfl,h1,h2⟩:=r;unfold Rep at h1;subst h1;rw[zF h2 e1,az]
  |_=>cases e
theorem Qm(r:Rep G H d v)(e:Ql d=some k):zE G.K H v k:=by
 unfold Ql at e;split at e
 ·rename_i ks w;unfold Rep at r;obtain⟨a,xs,rfl,h1,h2⟩:=r;unfold sj at h2;obtain⟨v1,r1,rfl,q1,q2⟩:=h2;unfold sj at q2;obtain⟨v2,r2,rfl,_,q3⟩:=q2;unfold sj at q3;subst q3;unfold Rep at q1;obtain⟨b,ys,rfl,p1,p2⟩:=q1;rw[zF p2 e]at p1;exact⟨a,b,v2,rfl,h1,p1⟩
 ·cases e
theorem Hm:∀{ds:aT} {ks:List aF},Ay ds=some ks->ks.length=ds.length
 |[],ks,e=>by cases e;rfl
 |d::ds,ks,e=>by
  unfold Ay at e;cases e1:Ql d with
  |none=>rw[e1]at e;cases e
  |some k=>
   cases e2:Ay ds with
   |none=>rw[e1,e2]at e;cases e
   |some ks'=>rw[e1,e2]at e;cases e;rw[aH,aH,Hm e2]
theorem Hn:∀{ds:aT} {ks:List aF} {xs:bI},sj G H ds xs->Ay ds=some ks->∀(i:Nat) (y:V) (k:aF),xs[i]?=some y->ks[i]?=some k->zE G.K H y k
 |[],ks,xs,r,e,i,y,k,h1,h2=>by cases e;cases h2
 |d::ds,ks,xs,r,e,i,y,k,h1,h2=>by
  unfold Ay at e;cases e1:Ql d with
  |none=>rw[e1]at e;cases e
  |some k'=>
   cases e2:Ay ds with
   |none=>rw[e1,e2]at e;cases e
   |some ks'=>
    rw[e1,e2]at e;cases e;unfold sj at r;obtain⟨v,r',rfl,q1,q2⟩:=r;cases i with
    |zero=>cases h1;cases h2;exact Qm q1 e1
    |succ i=>exact Hn q2 e2 i y k h1 h2
theorem Ho(r:sj G H ds xs):∀(is:List Nat),(∀i∈is,i<ds.length)->sj G H (is.map λi=>ds.getD i .non) (is.map λi=>xs.getD i V.non)
 |[],_=>tf
 |i::is,h=>by have hi:=h i (.head _);obtain⟨v,e,rv⟩:=uF r (aP hi);refine sX ?_ (Ho r is λj hj=>h j (.tail _ hj));show Rep G H (ds.getD i .non) (xs.getD i V.non);rw[cy,cy,e,aP hi];exact rv
theorem SqT.same{K:ay}(s:sA H0 H1)(p:zE K H0 y k):zE K H1 y k:=by obtain⟨a,b,v,e,h1,h2⟩:=p;exact⟨a,b,v,e,SqT.mono s h1,SqT.mono s h2⟩
theorem J3(hg:∀ρ ds ρ1,g ρ=some (.lst ds,ρ1)->f ρ=some (.lst ds,ρ1)\/f ρ=some (.tup ds,ρ1))(h:PE X e (tCB (λxs H Q=>∃(a:Addr) (ys:bI) (ks:List aF),xs=[.ref a]/\(SqL G.K H a ys\/SqT G.K H a ys)/\0<ys.length/\ys.length<64/\ks.length=ys.length/\ks.Nodup/\(∀(i:Nat) (y:V) (k:aF),ys[i]?=some y->ks[i]?=some k->zE G.K H y k)/\
  ∀p,H p=none->Q (.ref p) (upd H p (.lst ((J2 (λi j=>Aw (ks.getD i []) (ks.getD j [])) ys.length).map λi=>ys.getD i V.non)))) (tFA G (rV f sI)))):PE X e (tFN G (FC g)):=PE.weak h λσ H Q hh=>by
 obtain⟨F,ρ,H0,es,ρ',R,e,k⟩:=hh;unfold FC at e;split at e
 ·rename_i ds ρ1 e1;cases e2:Hl ds with
  |none=>simp only[e2]at e;cases e
  |some es'=>
   simp only[e2]at e;cases e;unfold Hl at e2;cases e3:Ay ds with
   |none=>simp only[e3]at e2;cases e2
   |some ks=>
    simp only[e3]at e2;split at e2
    ·rename_i hh;obtain⟨nd,hn,h64⟩:=hh;cases e2;have xx:∃x,f ρ=some (x,ρ')/\∀H v,Rep G H x v->∃a xs,v=V.ref a/\(H a=some (.lst xs)\/SqT G.K H a xs)/\sj G H ds xs:=by
      rcases hg _ _ _ e1 with q|q
      ·exact⟨_,q,λH v r=>by unfold Rep at r;obtain⟨a,xs,e,h1,h2⟩:=r;exact⟨a,xs,e,.inl h1,h2⟩⟩
      ·exact⟨_,q,λH v r=>by unfold Rep at r;obtain⟨a,xs,e,h1,h2⟩:=r;exact⟨a,xs,e,.inr h1,h2⟩⟩
     obtain⟨x,ex,hx⟩:=xx;refine⟨F,ρ,H0,[x],_,R,by unfold rV;rw[ex];rfl,λys H1 H1' s R' rs=>?_⟩
     sleep 1
     obtain⟨a,xs,rfl,h1,h2⟩:=hx _ _ rv;have hl:=sq h2;refine⟨a,xs,ks,rfl,h1.imp (λh=>SqL.of (R'.sub _ _ h)) (SqT.mono R'.sub),by omega,by omega,by rw[Hm e3,hl],nd,λi y kk q1 q2=>SqT.same R'.sub (Hn h2 e3 i y kk q1 q2),λp hp=>?_⟩;refine k p _ _ _ s (R'.newOwn hp _) sr (R'.h0none hp) (R'.bNone hp) (R'.apart hp) ?_;rw[<-hl];exact Ho h2 _ λi hi=>IF _ hn i hi
    ·cases e2
 ·cases e
theorem Ls(h:PE X e (tCB (λxs H Q=>∃(a:Addr) (ys:bI) (ks:List aF),xs=[.ref a]/\(SqL G.K H a ys\/SqT G.K H a ys)/\0<ys.length/\ys.length<64/\ks.length=ys.length/\ks.Nodup/\(∀(i:Nat) (y:V) (k:aF),ys[i]?=some y->ks[i]?=some k->zE G.K H y k)/\
  ∀p,H p=none->Q (.ref p) (upd H p (.lst ((J2 (λi j=>Aw (ks.getD i []) (ks.getD j [])) ys.length).map λi=>ys.getD i V.non)))) (tFA G (rV f sI)))):PE X e (tFN G (FC f)):=J3 (λ_ _ _ h=>.inl h) h
theorem IH(hu:X.A.units+64<cLine)(hK:X.K=G.K:=by rfl):ux X (.builtin "sorted") (λxs H Q=>∃(a:Addr) (ys:bI) (ks:List aF),xs=[.ref a]/\(SqL G.K H a ys\/SqT G.K H a ys)/\0<ys.length/\ys.length<64/\ks.length=ys.length/\ks.Nodup/\(∀(i:Nat) (y:V) (k:aF),ys[i]?=some y->ks[i]?=some k->zE G.K H y k)/\
  ∀p,H p=none->Q (.ref p) (upd H p (.lst ((J2 (λi j=>Aw (ks.getD i []) (ks.getD j [])) ys.length).map λi=>ys.getD i V.non)))):=by rw[<-hK];exact IG hu
end
end L4
namespace L4
open PySem PySem.Spec PyProof.Rows L2 L3
section
variable{X:Cx}{G:Bg}
theorem Tv:OpD G (λx y H Q=>∃z n,x=.str z/\y=.int n/\MulOk z n/\Q (.str (ib z n)) H) JN:=λx y z H0 H v u Q e s rx ry k=>by
 unfold JN at e;split at e
 ·rename_i a n;split at e
  ·rename_i hl;obtain⟨h0,h1,h2⟩:=hl;cases e;unfold Rep at rx ry;refine⟨a,n,rx,ry,⟨?_,λh3 h4 h5=>?_,λh3 h4=>?_⟩,k _ λ_ _=>zu _⟩
   ·rw[jT];exact⟨aO (by omega),aO (by omega)⟩
   ·have hn:(0:Int)<n:=by omega
    have q:(9223372036854775807:Int) / n >= 9223372036854775:=by have:=Int.le_ediv_of_mul_le (a:=9223372036854775) (b:=9223372036854775807) hn (by omega);exact this
    have:((2:Int) ^ 63 - 1)=9223372036854775807:=by decide
    rw[this]at h5;omega
   ·have hn:n.toNat<=1000:=by omega
    have:a.length * n.toNat<=100 * 1000:=Nat.mul_le_mul h2 hn;refine aO ?_;rw[bR];omega
  ·cases e
 ·cases e
theorem Tw(hu:X.A.units+1<cLine)(ha:PE X a (tF G f))(hb:PE X b (tF G f'))(h1:cX .In b=false:=by rfl):PT X (.Compare a [.In] [b] pos) (tFT G (cT (c2 (BK false) f f'))):=PT.weak (U4 (OT hu ha hb) h1) λσ H Q hh=>PN σ H _ (Ir σ H Q hh)
end
def MA:List String:=["NoneType", "bool", "int", "str", "tuple", "list", "dict"]
def Hr(n c:Nat):Ty->Option Bool:=λy=>match y with
 |.b x=>if MA.contains x=true then some false else none
 |.c k=>if k<n then some (k==c)else none
def EL(K:ay)(cs:List Addr)(C:Addr)(c:Nat):Bool:=
 MA.all (λx=>cY K (.type x) (.ref C)==some false)&&(bH cs.length).all λk=>cY K (.ref (cs.getD k 0)) (.ref C)==some (k==c)
theorem Ht{B:Bg}(h:EL B.K cs (B.ca c) c=true)(hn:cs.length=n)(hc:∀k,k<n->cs.getD k 0=B.ca k)(hI:∀k,k<n->NM B.K (B.ca k)):Ld B c (Hr n c):=by
 unfold EL at h;rw[bq,bJ,bJ]at h;refine⟨λy b e=>?_,λj b e=>?_⟩
 ·cases y with
  |b x=>
   unfold Hr at e;simp only at e;split at e
   ·rename_i hx;cases e;exact fz (h.1 x (mH.mp hx))
   ·cases e
  |c k=>
   unfold Hr at e;simp only at e;split at e
   ·rename_i hk;cases e;have:=fz (h.2 k (cB.mpr (by omega)));rw[hc k hk]at this;exact this
   ·cases e
 ·unfold Hr at e;simp only at e;split at e
  ·rename_i hk;exact hI j hk
  ·cases e
theorem WI{l:List Addr}(h:l.Nodup)(hj:j<l.length)(hk:k<l.length)(e:l.getD j 0=l.getD k 0):j=k:=by
 rw[cy,cy,aP hj,aP hk]at e;have pw:=mj.mp h;rcases nG j k with y|y|y
 ·exact au e (pw j k hj hk y)
 ·exact y
 ·exact au e.symm (pw k j hk hj y)
section
variable{B:Bg}{K:ay}{mg:Str->Option ae}{h:Heap}
theorem const_int(X:K.In h)(Gn:h.Ns aX mg)(e:ic K aX x=some (some (.int i t))):A7 B mg x (.int i):=
 ⟨.int i,_,jt X Gn e,⟨_,rfl⟩,λ_=>uV _⟩
inductive zG:List ae->aF->Prop
 |nil:zG [] []
 |cons {v:ae} {x:Str} {t:Tok} {vs:List ae} {xs:aF} (e:v=.str x t) (h:zG vs xs):zG (v::vs) (x::xs)
theorem zG.vals(h:zG vs xs):Vals (xs.map V.str) vs:=by
 induction h with
 |nil=>exact .nil
 |cons e h ih=>exact .cons ⟨_,e⟩ ih
theorem FD:∀xs:aF,sj B H (xs.map D.str) (xs.map V.str)
 |[]=>tf
 |x::xs=>sX (zu x) (FD xs)
theorem Lu(xs:aF)(X:B.K.In h)(Gn:h.Ns aX mg)(e:ic B.K aX x=some (some (.ref a)))(l:B.K.lookup a=some o)(hc:o.cls=.type "tuple")(hd:o.data=.seq its n)(hz:its.size<=1000)
  (r:zG its.toList xs):A7 B mg x (.tup (xs.map D.str)):=
 ⟨.ref a,_,jt X Gn e,rfl,λH=>zt (.inr ⟨o,its,n,l,hc,hd,by rw[bR];omega,r.vals⟩) (FD xs)⟩
end
section
variable{f g' h:FS}{c:FT}{e e' e2:FE}{a a':FA}{ρ ρ' ρ1 ρ2 ρ3:bg}{d x y z:D}{ds xs ys:aT}{k:Nat}{cap:List Nat}{g:FG}{ft:FT}{fe:FE}
theorem FH{α:Type}(dd:α->D)(p:α->Bool)(h:α->D):∀l:List α,
  (∀a∈l,∃ρ1 ρ2,g (dd a) (Bk k cap ρ)=some ρ1/\ft ρ1=some (p a,ρ2)/\(p a=true->∃ρ3,fe ρ2=some (h a,ρ3)/\vW cap (ρ3.drop k) ρ=some ρ)/\(p a=false->vW cap (ρ2.drop k) ρ=some ρ))->
  wX k cap g ft fe (l.map dd) ρ=some ((l.filter p).map h,ρ)
 |[],_=>rfl
 |a::l,st=>by
  obtain⟨ρ1,ρ2,h1,h2,h3,h4⟩:=st a aY;have ih:=FH dd p h l λa' ha=>st a' (bo _ ha);rw[az];unfold wX;rw[h1];simp only[h2];cases hp:p a with
  |true=>obtain⟨ρ3,h5,h6⟩:=h3 hp;simp only[h5,h6,ih,dD,hp,if_true,az]
  |false=>simp only[h4 hp,ih,dD,hp];rfl
theorem II{α:Type}(dd:α->D)(h:α->D)(l:List α)(st:∀a∈l,∃ρ1 ρ3,g (dd a) (Bk k cap ρ)=some ρ1/\fe ρ1=some (h a,ρ3)/\vW cap (ρ3.drop k) ρ=some ρ):wX k cap g ua fe (l.map dd) ρ=some (l.map h,ρ):=by have:=FH (ft:=ua) dd (λ_=>true) h l λa ha=>let ⟨ρ1,ρ3,h1,h2,h3⟩:=st a ha;⟨ρ1,ρ1,h1,rfl,λ_=>⟨ρ3,h2,h3⟩,λz=>by cases z⟩;rw[this,jY.mpr λ_ _=>rfl]
theorem vP(neg:Bool)(a b:Str):dEq neg (.str a) (.str b)=some (.bl (if neg then !decide (a=b)else decide (a=b))):=by
 have e:Dl neg (.str a) (.str b)=some (.bl (if neg then !decide (V.str a=V.str b)else decide (V.str a=V.str b))):=rfl;have e2:decide (V.str a=V.str b)=decide (a=b):=by
  by_cases h:a=b
  ·subst h;simp
  ·rw[aO h,aO (λz=>h (by injection z))]
 unfold dEq;rw[e,e2]
theorem Qn(a:Str)(l:aF):inV (V.str a) (l.map V.str)=decide (a∈l):=by
 unfold inV;rw[cK,fQ,bG];constructor
 ·rintro⟨v,hv,he⟩;obtain⟨b,hb,rfl⟩:=aK.mp hv;have:b=a:=by unfold eqV at he;simpa using he
  rw[<-this];exact hb
 ·intro ha;refine⟨.str a,cA ha,?_⟩;unfold eqV;simp
theorem N5(l:aF):(l.map D.str).all vA=true:=by rw[o5,bJ];intro x _;rfl
theorem Tx(l:aF):(l.map D.str).map vD=l.map V.str:=by rw[aZ];rfl
theorem uK(neg:Bool)(a:Str)(l:aF):dIn neg (.str a) (.lst (l.map D.str))=some (.bl (if neg then !decide (a∈l)else decide (a∈l))):=by unfold dIn;show (if vA (.str a)&&(l.map D.str).all vA then some (D.bl (if neg then !inV (vD (.str a)) ((l.map D.str).map vD)else inV (vD (.str a)) ((l.map D.str).map vD)))else none)=_;rw[N5,Tx];show some (D.bl (if neg then !inV (V.str a) (l.map V.str)else inV (V.str a) (l.map V.str)))=_;rw[Qn]
theorem J4(neg:Bool)(a:Str)(l:aF):dIn neg (.str a) (.tup (l.map D.str))=some (.bl (if neg then !decide (a∈l)else decide (a∈l))):=uK neg a l
theorem IJ:∀bs:List Bool,Gy (bs.map D.bl)=some bs
 |[]=>rfl
 |b::bs=>by rw[az];unfold Gy;rw[IJ bs];rfl
theorem Qo(bs:List Bool):yy (.lst (bs.map D.bl))=some (.bl (bs.all id)):=by unfold yy;simp only[IJ];rfl
theorem Qp(bs:List Bool):EA (.lst (bs.map D.bl))=some (.bl (bs.any id)):=by unfold EA;simp only[IJ];rfl
theorem MB{α:Type}(l:List α)(p:α->Bool):yy (.lst (l.map λa=>D.bl (p a)))=some (.bl (l.all p)):=by rw[show (l.map λa=>D.bl (p a))=(l.map p).map D.bl by rw[aZ];rfl,Qo,o5];rfl
theorem MC{α:Type}(l:List α)(p:α->Bool):EA (.lst (l.map λa=>D.bl (p a)))=some (.bl (l.any p)):=by rw[show (l.map λa=>D.bl (p a))=(l.map p).map D.bl by rw[aZ];rfl,Qp,List.any_map];rfl
theorem FI:∀l:aF,Bt (l.map D.str)=some (l.map Sum.inr)
 |[]=>rfl
 |x::l=>by rw[az];unfold Bt;rw[FI l];rfl
theorem Qq:∀(l acc:List Key),(acc++l).Nodup->l.foldl ddp acc=acc++l
 |[],acc,_=>by rw[bz];rfl
 |k::l,acc,h=>by
  have hn:acc.any (λz=>decide (z=k))=false:=by rw[iR];intro z;obtain⟨y,hy,ey⟩:=fQ.mp z;rw[cc]at h;exact h.2.2 y hy k aY (bu ey)
  rw[nZ,show ddp acc k=acc++[k] by unfold ddp;rw[hn];rfl,Qq l (acc++[k]) (by simpa using h)];simp
theorem w9{l:aF}(h:l.Nodup):(l.map (Sum.inr:Str->Key)).Nodup:=by unfold List.Nodup at h ⊢;rw[List.pairwise_map];exact h.imp λhne z=>hne (ji z)
theorem DT{l:aF}(h:l.Nodup)(hl:l.length<=1000):wC (l.map D.str)=some (.int l.length):=by unfold wC;rw[FI];simp only[ah,hl,if_true];unfold yz;rw[Qq _ [] (by simpa using w9 h)];simp
theorem vQ(neg:Bool)(a b:Int):dEq neg (.int a) (.int b)=some (.bl (if neg then !decide (a=b)else decide (a=b))):=by
 have e:Dl neg (.int a) (.int b)=some (.bl (if neg then !decide (V.int a=V.int b)else decide (V.int a=V.int b))):=rfl;have e2:decide (V.int a=V.int b)=decide (a=b):=by
  by_cases h:a=b
  ·subst h;simp
  ·rw[aO h,aO (λz=>h (by injection z))]
 unfold dEq;rw[e,e2]
theorem tM(h1:e ρ=some (.bl true,ρ1)):uf e e' ρ=e' ρ1:=by unfold uf;rw[h1]
theorem uh{g:Nat->Option (aT->Option D)}{m:Str}{c:Nat}{ns:aF}{hh:aT->Option D}(h1:e ρ=some (.obj c ns xs,ρ1))(h2:g c=some hh)(h3:ns.contains m=false)(h4:a ρ1=some (ys,ρ2))(h5:hh (.obj c ns xs::ys)=some d):tS g m e a ρ=some (d,ρ2):=by unfold tS;rw[h1];simp only[h2,h3,h4,h5];rfl
theorem IK{c:Nat}{g:aT->Option (aF×aT)}{ns:aF}(h1:a ρ=some (ds,ρ1))(h2:g ds=some (ns,xs)):tD c g a ρ=some (.obj c ns xs,ρ1):=by unfold tD;rw[h1];simp only[h2]
theorem zH(hl:ds.length=np)(h:b (L4.stE n ds)=some (.nx ρ)):fnD np n b ds=some .non:=by unfold fnD;rw[aj hl,h]
theorem WJ(hl:ds.length=np)(h:b (L4.stE n ds)=some (.rn xs ρ)):fnD np n b ds=some (.lst xs):=by unfold fnD;rw[aj hl,h]
theorem AA:∀{ks:List Key} {ds:aT} {k:Key} {d:D},ks.Nodup->(k,d)∈ks.zip ds->uG ks ds k=some d
 |[],_,k,d,_,h=>by simp at h
 |k'::ks,[],k,d,_,h=>by simp at h
 |k'::ks,d'::ds,k,d,nd,h=>by
  unfold uG;rw[dB]at h;rcases aN.mp h with e|h
  ·cases e;rw[aj rfl]
  ·rw[cj]at nd;rw[ao (λz=>nd.1 (by subst z;exact(ja h).1))];exact AA nd.2 h
theorem Ba:∀{ks:List Key} {ds:aT} {k:Key},k∉ks->uG ks ds k=none
 |[],ds,k,_=>by unfold uG;rfl
 |k'::ks,[],k,_=>by unfold uG;rfl
 |k'::ks,d'::ds,k,h=>by unfold uG;rw[ao (λz=>h (by subst z;exact aY))];exact Ba λz=>h (bo _ z)
end
end L4
namespace L4
open PySem PySem.Spec PyProof.Rows L2 L3
open PySem.W (nsIn findIn keepIn isFn makesIn fnOf)
def Lv{α:Type}:Nat->(List α->Prop)->Prop
 |0,P=>P []
 |n+1,P=>∀a,Lv n λl=>P (a::l)
theorem EM{α:Type}:∀{n:Nat} {P:List α->Prop},Lv n P->∀l,l.length=n->P l
 |0,P,h,[],_=>h
 |n+1,P,h,a::l,e=>EM (P:=λl=>P (a::l)) (h a) l (hG e)
structure CF(K:ay)(C:Addr)(xs:aF):Prop where
 ci:NM K C
 mks:makesIn K C=true
 kp:keepIn K (.ref C)=true
 na:(xs.all λx=>match findIn K (.ref C) x with|some none=>true|_=>false)=true
theorem CF.at{K:ay}(c:CF K C xs)(i:Nat)(h:xs[i]?=some x):Cls K C/\yb K C x:=⟨c.ci.cl,by
 have e:=bJ.mp c.na x (cJ h);unfold yb;split at e
 ·rename_i e1;exact e1
 ·cases e⟩
theorem xu{Q:Nat->Prop}{i:Nat}(h:Q i):∀c,(c==i)=true->Q c:=λc e=>by rw[beq_iff_eq]at e;subst e;exact h
theorem orQ{Q:Nat->Prop}{p:Nat->Bool}{i:Nat}(h:∀c,p c=true->Q c)(h':Q i):∀c,(p c||c==i)=true->Q c:=λc e=>by
 rw[kc]at e;rcases e with e|e
 ·exact h c e
 ·exact xu h' c e
structure Yw(P:aV)(w:aL)(mg:Str->Option ae)(base:Heap)(G:Bg):Prop where
 m:∃h:Heap,G.K.In h/\h.Ns aX mg
section
variable{P:aV}{w:aL}{mg:Str->Option ae}{base:Heap}{G:Bg}{x m qual:Str}{st:Stmt}{N ps:aF}{k c:Nat}{K:ay}
theorem Yw.g(y:Yw P w mg base G)(e:nsIn G.K aX x=some (some v)):mg x=some v:=by obtain⟨h,X,Gn⟩:=y.m;exact jt X Gn e
theorem Yw.n(y:Yw P w mg base G){xs:aF}(h:(xs.all λx=>match nsIn G.K aX x with|some none=>true|_=>false)=true)(i:Nat)(hi:xs[i]?=some x):mg x=none:=by
 obtain⟨hh,X,Gn⟩:=y.m;have e:=bJ.mp h x (cJ hi);split at e
 ·rename_i e1;exact W.mg_none_of X Gn e1
 ·cases e
def GC(K:ay)(x:Str)(i:Int):Prop:=∃t:Tok,nsIn K aX x=some (some (.int i t))
theorem Yw.ci(y:Yw P w mg base G)(q:GC G.K x i):A7 G mg x (.int i):=by obtain⟨h,X,Gn⟩:=y.m;obtain⟨t,e⟩:=q;exact const_int X Gn e
def GS(K:ay)(x:Str)(xs:aF):Prop:=∃(a:Addr) (o:Obj) (its:Array ae) (n:Nat),nsIn K aX x=some (some (.ref a))/\K.lookup a=some o/\o.cls=.type "tuple" /\ o.data=.seq its n/\its.size<=1000/\zG its.toList xs
theorem Yw.cs(y:Yw P w mg base G)(q:GS G.K x xs):A7 G mg x (.tup (xs.map D.str)):=by obtain⟨h,X,Gn⟩:=y.m;obtain⟨a,o,its,n,e,l,h1,h2,h3,h4⟩:=q;exact Lu xs X Gn e l h1 h2 h3 h4
def GD(K:ay)(x:Str)(st:Stmt):Prop:=∃(f:Addr) (fd:cb),nsIn K aX x=some (some (.ref f))/\Fun K x x st f fd
def GM(K:ay)(C:Addr)(m qual:Str)(st:Stmt):Prop:=∃(f:Addr) (fd:cb),findIn K (.ref C) m=some (some (.ref f))/\isFn K (.ref f)=true/\Fun K m qual st f fd
def GJ(K:ay)(C:Addr)(qual:Str)(st:Stmt)(vs:bI):Prop:=∃(f:Addr) (fd:cb) (T:Addr) (o:Obj) (dl:List ae) (n:Nat),findIn K (.ref C) "__init__" = some (some (.ref f))/\isFn K (.ref f)=true/\NA K "__init__" qual st f fd T/\K.lookup T=some o/\o.data=.seq dl.toArray n/\Vals vs dl
abbrev Bdy(P:aV)(w:aL)(K:ay)(mg:Str->Option ae)(base:Heap)(N:aF)(qual:Str)(st:Stmt)(k:Nat)(t:TS):Prop:=∀(f:Addr) (cdv:ae) (A:aS) (outer:List Env) (s:ag) (H:Hp) (E:XK),uy k (A.deeper (envOfC qual (sM st) s.heap.objs.size f cdv))->PSs (Bs P w K mg base N qual st f cdv A outer s H E) (tG st) t
abbrev Bds(x qual:Str)(st:Stmt)(ps:aF):Prop:=Lv ps.length λus=>∀(kV doc pm:ae) (an:Option Addr) (cdv ct:ae),bindArgs (fnOf x qual (wz st) (tG st) (sM st) .none kV doc pm an cdv ct) ⟨us,[]⟩=pure (ps.zip us)
theorem Bds.ok(b:Bds x qual st ps)(F:Fun K x qual st f fd):Binds K fd ps []:=F.binds λkV doc pm an cdv ct us hl=>EM b us hl kV doc pm an cdv ct
theorem gD(y:Yw P w mg base G)(q:GD G.K x st)(bd:Bds x x st ps)(ok:∀f fd,Fun G.K x x st f fd->wx P w G.K mg base CX0 k f fd ps sp):y8 P w G.K mg base k x ps sp:=by obtain⟨f,fd,a,F⟩:=q;exact⟨f,fd,y.g a,F.kp,bd.ok F,ok f fd F⟩
theorem gF(hg:g=fnD np n b)(y:Yw P w mg base G)(q:GD G.K x st)(S:uu N ps (sM st))(body:Bdy P w G.K mg base N x st k (tFS G b))(hp:ps.length=np:=by rfl)(hN:N.length=n:=by rfl)(bd:Bds x x st ps:=by (repeat intro _);rfl):y8 P w G.K mg base (k+1) x ps (spF G g):=
 gD y q bd λf fd F=>Pz hg hp hN F S (body f)
theorem gN'(hg:g=fnN np n b)(y:Yw P w mg base G)(q:GD G.K x st)(S:uu N ps (sM st))(body:Bdy P w G.K mg base N x st k (tFS G b))(hp:ps.length=np:=by rfl)(hN:N.length=n:=by rfl)(bd:Bds x x st ps:=by (repeat intro _);rfl):y8 P w G.K mg base (k+1) x ps (spN G g):=
 gD y q bd λf fd F=>Z1 hg hp hN F S (body f)
theorem gM(hg:g=fnM np n b)(y:Yw P w mg base G)(q:GD G.K x st)(S:uu N (p::ps) (sM st))(body:Bdy P w G.K mg base N x st k (tFS G b))(hp:ps.length=np:=by rfl)(hN:N.length=n:=by rfl)(bd:Bds x x st (p::ps):=by (repeat intro _);rfl):y8 P w G.K mg base (k+1) x (p::ps) (spM G g):=
 gD y q bd λf fd F=>Z2 hg hp hN F S (body f)
theorem gL(hg:g=fnL np n b)(y:Yw P w mg base G)(q:GD G.K x st)(S:uu N ps (sM st))(body:Bdy P w G.K mg base N x st k (tFS G b))(hp:ps.length=np+1:=by rfl)(hN:N.length=n:=by rfl)(bd:Bds x x st ps:=by (repeat intro _);rfl):y8 P w G.K mg base (k+1) x ps (spL G g):=
 gD y q bd λf fd F=>aac hg hp hN F S (body f)
theorem gI(hg:g=fnI c np n b)(y:Yw P w mg base G)(C:CF G.K (G.ca c) xs)(a:nsIn G.K aX x=some (some (.ref (G.ca c))))(q:GM G.K (G.ca c) "__init__" qual st)(S:uu N (p::ps) (sM st))(body:Bdy P w G.K mg base N qual st k (tFS G b))(hp:ps.length=np:=by rfl)(hN:N.length=n:=by rfl)(bd:Bds "__init__" qual st (p::ps):=by (repeat intro _);rfl):Iv G P w mg base (k+1) x c (p::ps) [] g:=by obtain⟨f,fd,i,i',F⟩:=q;exact⟨f,fd,[],⟨C.mks,i,i',C.kp⟩,y.g a,bd.ok F,.nil,Z3 hg hp hN F S (body f)⟩
theorem J5(h:Vals vs us):us.length=vs.length:=by
 induction h with
 |nil=>rfl
 |cons _ _ ih=>rw[aH,aH,ih]
theorem N6(h:Vals vs us):∀j,Vals (vs.drop j) (us.drop j):=by
 induction h with
 |nil=>intro j;rw[oV,oV];exact .nil
 |cons a b ih=>
  intro j;cases j with
  |zero=>exact .cons a b
  |succ j=>exact ih j
theorem gJ(hg:g=fnI c np n b)(y:Yw P w mg base G)(C:CF G.K (G.ca c) xs)(a:nsIn G.K aX x=some (some (.ref (G.ca c))))(q:GJ G.K (G.ca c) qual st vs)(S:uu N (p::ps) (sM st))(body:Bdy P w G.K mg base N qual st k (tFS G b))(j:Nat)(hp:ps.length=np:=by rfl)(hN:N.length=n:=by rfl)
  (bd:Lv vs.length λdl=>Lv ((p::ps).length - (vs.drop j).length) λus=>∀(T:Addr) (kV doc pm:ae) (an:Option Addr) (cdv ct:ae),∃k,bindArgs (fnOf "__init__" qual (wz st) (tG st) (sM st) (.ref T) kV doc pm an cdv ct) ⟨us,[]⟩=seqItems? (.ref T)>>=k/\k (some dl.toArray)=pure ((p::ps).zip (us++dl.drop j)):=by (repeat intro _);exact⟨_,rfl,rfl⟩):Iv G P w mg base (k+1) x c (p::ps) (vs.drop j) g:=by
 obtain⟨f,fd,T,o,dl,n,i,i',F,l,e,r⟩:=q;refine⟨f,fd,dl.drop j,⟨C.mks,i,i',C.kp⟩,y.g a,F.binds l e λkV doc pm an cdv ct us hl=>?_,N6 r j,Wo hg hp hN F S (body f)⟩;exact EM (EM bd dl (J5 r)) us (by rw[hl,cg,cg,J5 r]) T kV doc pm an cdv ct
end
end L4
namespace L4
open PySem PySem.Spec PyProof.Rows L2 L3
def leS(a b:Str):Bool:=decide (a.cps.toList<=b.cps.toList)
def xI(ss:aF):aF:=ss.mergeSort leS
theorem Qr(a b c:Str)(h:leS a b=true)(h':leS b c=true):leS a c=true:=ba (List.le_trans (bu h) (bu h'))
theorem TB(a b:Str):(leS a b||leS b a)=true:=by
 rw[kc];rcases List.le_total a.cps.toList b.cps.toList with h|h
 ·exact .inl (ba h)
 ·exact .inr (ba h)
theorem Qs(a b:Str)(h:leS a b=true)(h':leS b a=true):a=b:=by have e:=List.le_antisymm (bu h) (bu h');cases a with|mk a=>cases b with|mk b=>cases a;cases b;simp only at e;rw[e]
theorem Dt:∀(r:aF) (x:Str),risingS x r=true->(∀y∈r,leS x y=true)/\r.Pairwise λa b=>leS a b=true
 |[],x,_=>⟨λy h=>(bU h).elim,.nil⟩
 |z::r,x,h=>by
  unfold risingS at h;rw[bq,fO,ltCps_eq]at h;obtain⟨h1,h2⟩:=h;obtain⟨g1,g2⟩:=Dt r z h2;have h3:leS x z=true:=ba (of_decide_eq_false h1);refine⟨λy hy=>?_,.cons g1 g2⟩;rcases aN.mp hy with e|hy
  ·rw[e];exact h3
  ·exact Qr _ _ _ h3 (g1 y hy)
theorem Lw:∀l:aF,sortedS l=true->l.Pairwise λa b=>leS a b=true
 |[],_=>.nil
 |x::r,h=>.cons (Dt r x h).1 (Dt r x h).2
theorem FJ{l:aF}(p:l.Perm ss)(h:sortedS l=true):l=xI ss:=
 List.Perm.eq_of_pairwise (λa b _ _=>Qs a b) (Lw l h) (List.pairwise_mergeSort Qr TB ss) (p.trans (iN ss leS).symm)
theorem FK:∀{xs:aF} {vs:List ae},Vals (xs.map V.str) vs->fM vs xs
 |[],vs,h=>by cases h;exact .nil
 |x::xs,vs,h=>by
  cases h with
  |cons r h'=>obtain⟨t,rfl⟩:=r;exact .cons x t (FK h')
theorem Qt:∀{vs:List ae} {xs:aF},fM vs xs->Vals (xs.map V.str) vs
 |_,_,.nil=>.nil
 |_,_,.cons x t h=>.cons ⟨t,rfl⟩ (Qt h)
section
variable{X:Cx}{G:Bg}{pins:cH}{σ:St}{H:Hp}{s:ag}
theorem IM:ux X (.builtin "sorted") (λxs H Q=>∃(a:Addr) (ss:aF),xs=[.ref a]/\SqL X.K H a (ss.map V.str)/\ss.length<64/\∀p,H p=none->Q (.ref p) (upd H p (.lst ((xI ss).map V.str)))):=by
 intro pins s σ H xs us Q I r h;obtain⟨a,ss,rfl,hq,h64,q⟩:=h;obtain⟨u,rfl,ru⟩:=vals1 r;cases ru;obtain⟨its,ri,pl,_⟩:=I.list hq;have hl:(ss.map V.str).length=its.length:=ri.length;rw[ah]at hl;refine sorted_strs pl.isList (FK ri) (by omega) λout ss' a1 a2 a3=>?_;obtain⟨e,he⟩:=sortedAll_at s.heap its out;have e1:=FJ a2 a3;refine⟨.ref (s.heap.objs.size+1),_,I.laid (t':=s.toks) (λ_ _=>sortedAll_old) (fw _) ?_,rfl,q _ (I.hok.fresh (fw _))⟩;refine⟨?_,out.toList,e,?_,he⟩
 ·rw[ah,<- e1,a2.length_eq,bR];omega
 ·rw[<-e1];exact Qt a1
def Du(f:FE):FA:=λρ=>match f ρ with
 |some (.lst ds,ρ')=>match Ax ds with
  |some ss=>if ss.length<64 then some ((xI ss).map D.str,ρ')else none
  |none=>none
 |_=>none
theorem BP:∀xs:aF,sj G H (xs.map D.str) (xs.map V.str)
 |[]=>tf
 |x::xs=>sX (zu x) (BP xs)
theorem J6(h:PE X e (tCB (λxs H Q=>∃(a:Addr) (ss:aF),xs=[.ref a]/\SqL G.K H a (ss.map V.str)/\ss.length<64/\∀p,H p=none->Q (.ref p) (upd H p (.lst ((xI ss).map V.str)))) (tFA G (rV f sI)))):PE X e (tFN G (Du f)):=PE.weak h λσ H Q hh=>by
 obtain⟨F,ρ,H0,es,ρ',R,e,k⟩:=hh;unfold Du at e;split at e
 ·rename_i ds ρ1 e1;cases e2:Ax ds with
  |none=>simp only[e2]at e;cases e
  |some ss=>
   simp only[e2]at e;split at e
   ·rename_i h64;cases e;refine⟨F,ρ,H0,[.lst ds],_,R,by unfold rV;rw[e1];rfl,λys H1 H1' s R' rs=>?_⟩
    sleep 1
    unfold Rep at rv;obtain⟨a,xs,rfl,h1,h2⟩:=rv;have hx:=zF h2 e2;subst hx;refine⟨a,ss,rfl,SqL.of (R'.sub _ _ h1),h64,λp hp=>?_⟩;exact k p _ _ _ s (R'.newOwn hp _) sr (R'.h0none hp) (R'.bNone hp) (R'.apart hp) (BP _)
   ·cases e
 ·cases e
theorem GE(hK:X.K=G.K:=by rfl):ux X (.builtin "sorted") (λxs H Q=>∃(a:Addr) (ss:aF),xs=[.ref a]/\SqL G.K H a (ss.map V.str)/\ss.length<64/\∀p,H p=none->Q (.ref p) (upd H p (.lst ((xI ss).map V.str)))):=by rw[<-hK];exact IM
theorem BQ(k:Str):∀{vs:List ae} {ss:aF},fM vs ss->∀(j:Nat) (h1:j<vs.length) (h2:j<ss.length),isStrOf k vs[j]=(ss[j]==k)
 |_,_,.cons n t _,0,_,_=>rfl
 |_,_,.cons n t r,j+1,h1,h2=>BQ k r j (gB h1) (gB h2)
theorem J7:∀{ns:aF} {j:Nat},j<ns.idxOf k->∀(h2:j<ns.length),(ns[j]==k)=false
 |n::r,0,h,_=>by
  by_cases e:n=k
  ·subst e;simp at h
  ·simpa using e
 |n::r,j+1,h,h2=>by
  by_cases e:n=k
  ·subst e;simp at h
  ·have hb:(n==k)=false:=by simpa using e
   have h':j<r.idxOf k:=by rw[oe,hb]at h;exact gB h
   exact J7 h' (gB h2)
def IP(K:ay):V->bI->Hp->VK->Prop:=λx vs H Q=>∃(l:Addr) (ss:aF) (k:Str),x=.ref l/\vs=[.str k]/\SqL K H l (ss.map V.str)/\ss.length<=1000/\k∈ss/\Q (.int (ss.idxOf k:Nat)) H
theorem N7:MtM X "list.index" (IP X.K):=by
 intro pins s σ H x vs v us Q I rx rv h;obtain⟨l,ss,k,rfl,rfl,hq,hz,hk,q⟩:=h;cases rx;obtain⟨u,rfl,ru⟩:=rv.one;obtain⟨t,rfl⟩:=ru;obtain⟨its,ri,pl,_⟩:=I.list hq;have hi:=FK ri;have hlen:ss.length=its.length:=by have:=ri.length;rw[ah]at this;exact this
 obtain⟨⟨cls,dd,data,sl⟩,ho,hc,n,hd⟩:=id pl.isList;simp only at hc hd;subst hc hd;have hj:ss.idxOf k<ss.length:=mr.mpr hk;refine hJ nH ⟨_,ho,rfl⟩ F.entry_list_index (F.args_list_index_2 _ _)
  (qJ l its.toArray n dd sl (.str k t) (isStrOf k) (ss.idxOf k) (by simpa [hlen]using hj) (by omega) ?_ ?_) ⟨ho,λy hy=>(eq_isStrOf k t hi y (by simpa using hy)).at _ _,?_⟩
 ·show isStrOf k its[ss.idxOf k]=true;rw[BQ k hi _ (by omega) hj];simpa using List.getElem_idxOf hj
 ·intro j hjs hlt;show isStrOf k its[j]=false;rw[BQ k hi j (by simpa using hjs) (by omega)];exact J7 hlt _
 ·exact⟨.int (ss.idxOf k:Nat),_,I.tok _,⟨_,rfl⟩,q⟩
def xh:D->D->Option D:=λx y=>match x,y with
 |.lst ds,.str k=>match Ax ds with
  |some ss=>if k∈ss/\ss.length<=1000 then some (.int (ss.idxOf k:Nat))else none
  |none=>none
 |_,_=>none
theorem N8(h:PE X e (tBM G.K "list" (IP G.K) (tF G f) (tFA G (rV f' sI)))):PE X e (tF G (c2 xh f f')):=PE.weak h λσ H Q hh=>by
 sleep 5
 obtain⟨x,y,ρ1,e1,e2,e3⟩:=Ca e;unfold xh at e3;split at e3
 ·rename_i ds kk;cases eq:Ax ds with
  |none=>simp only[eq]at e3;cases e3
  |some ss=>
   simp only[eq]at e3;split at e3
   ·rename_i hk;cases e3;refine⟨F,ρ,H0,_,ρ1,R,e1,λv H1 H1' s1 R1 r1=>?_⟩;unfold Rep at r1;obtain⟨a,xs,rfl,h1,h2⟩:=r1;have hx:=zF h2 eq;subst hx;refine⟨.inl ⟨rfl,_,SqL.of (R1.sub _ _ h1)⟩,F,ρ1,H1,[.str kk],ρ',R1,by unfold rV;rw[e2];rfl,λys H2 H2' s2 R2 rs=>?_⟩;unfold sj at rs;obtain⟨v,r0,rfl,rv,rn⟩:=rs;unfold sj at rn;unfold Rep at rv;subst rn rv;exact⟨a,ss,kk,rfl,rfl,SqL.of (R2.sub _ _ (s2 _ _ h1)),hk.2,hk.1,k _ H2 H2' (s1.trans s2) R2 (uV _)⟩
   ·cases e3
 ·cases e3
theorem N9(hK:X.K=G.K:=by rfl):MtM X "list.index" (IP G.K):=by rw[<-hK];exact N7
end
end L4
namespace L4
open PySem PySem.Spec PySem.Calls PyProof.Rows PySem.W L2 L3
structure Sto(c:Nat->Nat->Bool)(n:Nat):Prop where
 tr:∀i j k,i<n->j<n->k<n->c i j=true->c j k=true->c i k=true
 tot:∀i j,i<n->j<n->i≠j->c i j=false->c j i=true
end L4
namespace L4
open PySem PySem.Spec PyProof.Rows L2 L3
structure Bz where
 P:aV
 w:aL
 mg:Str->Option ae
 base:Heap
 G:Bg
structure ZE(X:Cx)(B:Bz)(e:Expr)(f:FE):Prop where p:PE X e (tF B.G f)
structure ZN(X:Cx)(B:Bz)(e:Expr)(f:FA):Prop where p:PE X e (tFN B.G f)
structure ZT(X:Cx)(B:Bz)(e:Expr)(f:FT):Prop where p:PT X e (tFT B.G f)
structure ZW(X:Cx)(B:Bz)(e:Expr)(f:FT):Prop where p:PW X e (tFT B.G f)
structure ZF(X:Cx)(B:Bz)(e:List Expr)(f:FT):Prop where p:PIf X e (tFT B.G f)
structure ZA(X:Cx)(B:Bz)(e:List Expr)(f:FA):Prop where p:PA X e (tFA B.G f)
structure ZM(X:Cx)(B:Bz)(e:List Expr)(i:Nat)(f:FA):Prop where p:PA X e (Lo B.G i f)
structure ZS(X:Cx)(B:Bz)(e:Stmt)(f:FS):Prop where p:PS X e (tFS B.G f)
structure ZB(X:Cx)(B:Bz)(e:List Stmt)(f:FS):Prop where p:PSs X e (tFS B.G f)
structure ZI(X:Cx)(B:Bz)(tg e:Expr)(f:FA):Prop where p:PI X tg e (tFI B.G f)
structure ZO(X:Cx)(B:Bz)(e:Option Expr)(f:FO):Prop where p:PO X e (tFO B.G f)
structure ZG(X:Cx)(B:Bz)(e:Expr)(n:Nat)(f:FG):Prop where p:PG X e (tFG B.G n f)
structure ZH(X:Cx)(B:Bz)(e:List Expr)(n:Nat)(f:aT->bg->Option bg):Prop where p:PGs X e (Pa B.G n f)
structure ZK(X:Cx)(e:Option Expr)(i:Option Int):Prop where p:PO X e (tO i)
structure ZP(X:Cx)(B:Bz)(pos:Pos)(ks:List (Option Expr))(vs:List Expr)(l:List (Str×FE)):Prop where p:PPs X pos ks vs (Qf B.G l)
structure ZV(X:Cx)(e:Expr)(i:Nat):Prop where p:PE X e (yL i)
abbrev Gz(X:Cx)(x:Str):Prop:=X.env.kindOf x=some .globalImplicit
abbrev Dz(x:Str):Prop:=(x==("__debug__" : Str))=false
abbrev Nz(x:Str):Prop:=(decide (x≠"__name__")&&!(x==("__debug__" : Str)))=true
abbrev Sz(X:Cx)(e:Expr)(es:List Expr):Prop:=aA (e::es) X.env=(false,eval e X.env)::aA es X.env
abbrev S1(X:Cx)(e:Expr):Prop:=aA [e] X.env=[(false,eval e X.env)]
abbrev Lz(X:Cx)(pos:Pos)(es:List Expr):Prop:=(bD pos (aA es X.env)).any (·.1)=false
abbrev Wz(X:Cx)(e o:Expr)(pos:Pos):Prop:=dt e (some o) pos.line X.env=pure false
abbrev Az(X:Cx)(o:Expr)(m:Str):Prop:=dH o m X.env (eval o X.env)=eval o X.env
abbrev Ez(p pos:Pos):Prop:=(p.endLine==pos.line)=true
abbrev Iz(e:Expr):Prop:=(λo i=>subscripted e false o i)=λo i=>operate [o,i] (getItem o i)
abbrev Fz(X:Cx)(e:Expr):Prop:=(λx=>gO e X.env x)=λx=>pure x
class Cz(X:Cx)(B:outParam Bz)(k:outParam Nat):Prop where
 P:X.prog=B.P
 w:X.w=B.w
 K:X.K=B.G.K
 mg:X.mg=B.mg
 b:X.base=B.base
 c:X.calm=true
 r:uy k X.A
class Yb(B:Bz):Prop where y:Yw B.P B.w B.mg B.base B.G
class Df(B:Bz)(j:outParam Nat)(x:Str)(sp:Sp):Prop where p:∃ps,y8 B.P B.w B.G.K B.mg B.base j x ps sp
class Kf(B:Bz)(j:outParam Nat)(x:Str)(c:Nat)(g:aT->Option (aF×aT))(dds:aT):Prop where
 p:∃ps,Iv B.G B.P B.w B.mg B.base j x c ps (dds.map vD) g
 f:dds.all vA=true
class Mf(B:Bz)(j:outParam Nat)(m:Str)(g:Nat->Option (aT->Option D)):Prop where p:∀c h,g c=some h->zx B.G B.P B.w B.mg B.base j m c h
class Ff(B:Bz)(ok:Nat->Bool)(f:Str):Prop where p:∀c,ok c=true->Cls B.G.K (B.G.ca c)/\yb B.G.K (B.G.ca c) f
class Af(B:Bz)(c:Nat)(xs:outParam aF):Prop where p:CF B.G.K (B.G.ca c) xs
class Nb(B:Bz)(x:Str):Prop where p:B.mg x=none
class Co(B:Bz)(x:Str)(d:D):Prop where p:A7 B.G B.mg x d
class Ic(B:Bz)(x:Str)(t:Ty->Option Bool):Prop where p:∃c,Ld B.G c t/\B.mg x=some (.ref (B.G.ca c))
class Ij(B:Bz)(n:Nat):Prop where p:∀j k,j<n->k<n->B.G.ca j=B.G.ca k->j=k
class OpC(op:Operator)(g:D->D->Option D):Prop where p:∀(X:Cx) (G:Bg),∃r,OpR X (cQ op) r/\OpD G r g
instance in1:OpC .Mod vB:=⟨λ_ _=>⟨_,Vo,V9⟩⟩
instance in2:OpC .FloorDiv Bq:=⟨λ_ _=>⟨_,RI,Wa⟩⟩
instance in3:OpC .Mult xq:=⟨λ_ _=>⟨_,Vn,V8⟩⟩
instance in4:OpC .Sub JG:=⟨λ_ _=>⟨_,Vm,V7⟩⟩
instance in5:OpC .Pow DN:=⟨λ_ _=>⟨_,Vp,Wb⟩⟩
instance in6:OpC .Add tU:=⟨λ_ _=>⟨_,Vl,V6⟩⟩
instance in8:OpC .Mult JN:=⟨λ_ _=>⟨_,K5,Tv⟩⟩
class CmC(op:CmpOp)(g:D->D->Option D):Prop where p:∀(X:Cx) (G:Bg),X.K=G.K->X.A.units+64<cLine->∃r,OpR X (br op) r/\OpD G r g
instance in9:CmC .Eq (dEq false):=⟨λ_ _ h u=>⟨_,Wg u h,ZU⟩⟩
instance in10:CmC .NotEq (dEq true):=⟨λ_ _ h u=>⟨_,Wh u h,ZX⟩⟩
instance in11:CmC .In (dIn false):=⟨λ_ _ h _=>⟨_,Wi h,UF⟩⟩
instance Rf:CmC .NotIn (dIn true):=⟨λ_ _ h _=>⟨_,NI h,UF⟩⟩
instance in13:CmC .Is BJ:=⟨λ_ _ _ _=>⟨_,Vq,Wd⟩⟩
instance in14:CmC .IsNot y7:=⟨λ_ _ _ _=>⟨_,RJ,SQ⟩⟩
instance in16:CmC .Lt Bl:=⟨λ_ _ _ _=>⟨_,Zb,ZD⟩⟩
instance in17:CmC .LtE yM:=⟨λ_ _ _ _=>⟨_,Zc,ZL⟩⟩
instance in18:CmC .Gt Fk:=⟨λ_ _ _ _=>⟨_,Zd,ZQ⟩⟩
instance in19:CmC .GtE V5:=⟨λ_ _ _ _=>⟨_,Ze,ZR⟩⟩
instance in20:CmC .LtE Po:=⟨λ_ _ _ _=>⟨_,Ny,Wc⟩⟩
class B1(x:Str)(g:D->Option D):Prop where p:∀(X:Cx) (G:Bg),X.K=G.K->X.calm=true->∃(id:String) (r:bI->Hp->VK->Prop),ux X (.builtin id) r/\G6 G r g/\di x=some (.builtin id)
instance in21:B1 "len" uw:=⟨λ_ _ h _=>⟨_,_,NK h,Wj,oF⟩⟩
instance in22:B1 "all" yy:=⟨λ_ _ h c=>⟨_,_,NL c h,Wl,boot_all⟩⟩
instance in23:B1 "any" EA:=⟨λ_ _ h c=>⟨_,_,NS c h,Wr,boot_any⟩⟩
class KtC(x:Str)(T:outParam String):Prop where p:(∀(X:Cx) (G:Bg) y b,vq T y=some b->cY X.K (y.val G) (.type T)=some b)/\di x=some (.type T)
instance in24:KtC "str" "str" := ⟨λ_ _=>SY,Pv.boot_str⟩
instance in25:KtC "int" "int" := ⟨λ_ _=>To,ph⟩
instance in26:KtC "bool" "bool" := ⟨λ_ _=>Qc,Pv.boot_bool⟩
instance in27:KtC "list" "list" := ⟨λ_ _=>PF,o6⟩
instance in28:KtC "tuple" "tuple" := ⟨λ_ _=>kit_tuple,oW⟩
theorem UL:∀{dds:aT},dds.all vA=true->sj G H dds (dds.map vD)
 |[],_=>tf
 |d::ds,h=>by rw[dJ,bq]at h;exact sX (Cd h.1 H) (UL h.2)
theorem eqI{α:Sort u}{a b:α}(h:a=b):a=b:=h
def sees(X:Cx)(i:Nat)(x:Str):Bool:=decide (X.N[i]?=some x)&&(match X.env.scope.names.lookup x with|some .local=>true|some .cell=>true|some .free=>true|_=>false)&&!(x==("__debug__" : Str))&&!(x==("__classdict__" : Str))
def sets(X:Cx)(i:Nat)(x:Str):Bool:=decide X.N.Nodup&&decide (X.N[i]?=some x)&&(match X.env.scope.names.lookup x with|some .local=>true|some .cell=>X.fn x|_=>false)
section
variable{X:Cx}{B:Bz}{k j i n c0:Nat}{x m:Str}{e e' o tg it:Expr}{es:List Expr}{p p2 p3 pos apos:Pos}{f f' f2:FE}{a:FA}{g:D->D->Option D}
theorem pvI(h:sees X i x=true):PE X (.Name x p) (yL i):=by
 unfold sees at h;simp only[bq,bG,fO]at h;obtain⟨⟨⟨h1,h2⟩,h3⟩,h4⟩:=h;refine pv i h1 ?_ h3 h4;unfold Vis;split at h2
 ·rename_i e;exact .inl e
 ·rename_i e;exact .inr (.inl e)
 ·rename_i e;exact .inr (.inr e)
 ·cases h2
theorem aad(h:sees X i x=true):ZE X B (.Name x p) (cV i):=⟨K6 (pvI h)⟩
theorem WK(h:sees X i x=true):ZE X B (.Name x p) (cFz i):=⟨ZC (pvI h)⟩
theorem TC(h:sees X i x=true):ZN X B (.Name x p) (K8 i):=⟨SK (pvI h)⟩
theorem IQ(h:sets X i x=true):X.N.Nodup/\X.N[i]?=some x/\L2.Loc X.env.scope x/\(X.fn x=true\/X.env.scope.names.lookup x=some .local):=by
 unfold sets at h;simp only[bq,bG]at h;obtain⟨⟨h1,h2⟩,h3⟩:=h;unfold L2.Loc;split at h3
 ·rename_i e;exact⟨h1,h2,.inl e,.inr e⟩
 ·rename_i e;exact⟨h1,h2,.inr e,.inl h3⟩
 ·cases h3
theorem pgI(h:sets X i x=true):PG X (.Name x p) (yZ i):=by obtain⟨h1,h2,h3,h4⟩:=IQ h;exact LX h1 h2 h3 h4
theorem WL(h:sets X i x=true)(hi:Nat.blt i n=true):ZG X B (.Name x p) n (gN i):=⟨Pb n (pgI h) (Nat.blt_eq.mp hi)⟩
theorem stW(h:sets X i x=true)(he:PE X e te)(hs:Wz X e (.Name x p) pos):PS X (.Assign [.Name x p] e pos) (CU te (yZ i)):=by obtain⟨h1,h2,h3,h4⟩:=IQ h;exact Vf h1 h2 h3 he hs h4
theorem WM(h:sets X i x=true)(he:ZE X B e f)(hs:Wz X e (.Name x p) pos):ZS X B (.Assign [.Name x p] e pos) (sO i f):=⟨Mg (stW h he.p hs)⟩
theorem WN(h:sets X i x=true)(he:ZN X B e a)(hs:Wz X e (.Name x p) pos):ZS X B (.Assign [.Name x p] e pos) (uT i a):=⟨Pd (stW h he.p hs)⟩
theorem WO(h:sets X i x=true)(hs:Wz X (.Dict [] [] p2) (.Name x p) pos):ZS X B (.Assign [.Name x p] (.Dict [] [] p2) pos) (Cg i):=⟨PL (stW h E3 hs)⟩
theorem WQ [O:OpC op g](ha:ZE X B e f)(hb:ZE X B e' f'):ZE X B (.BinOp e op e' pos) (c2 g f f'):=by obtain⟨r,h1,h2⟩:=O.p X B.G;exact⟨Zs h1 h2 ha.p hb.p⟩
theorem WR [C:Cz X B k](ha:ZE X B e f)(hb:ZE X B e' f')(hs:Iz e'):ZE X B (.Subscript e e' pos) (c2 dIx f f'):=⟨Zt (ix_X C.K) ZY ha.p hb.p λo i=>congrFun (congrFun hs o) i⟩
theorem TF [C:Cz X B k](h:sees X i x=true)(hb:ZE X B e' f')(hs:Iz e'):ZE X B (.Subscript (.Name x p) e' pos) (Dg i f'):=⟨V3 (UB (O1 B.G.K C.K) (pvI h) hb.p λo i=>congrFun (congrFun hs o) i)⟩
theorem WS [C:Cz X B k](ha:ZE X B e f)(hb:ZE X B e' f')(hs:Iz e'):ZE X B (.Subscript e e' pos) (c2 tq f f'):=⟨S4 (GV C.r) ha.p hb.p λo i=>congrFun (congrFun hs o) i⟩
section
variable{op op':CmpOp}{g':D->D->Option D}
theorem WT [O:CmC op g][C:Cz X B k](ha:ZE X B e f)(hb:ZE X B e' f')(hm:cX op e'=false):ZE X B (.Compare e [op] [e'] pos) (c2 g f f'):=by obtain⟨r,h1,h2⟩:=O.p X B.G C.K C.r.units;exact⟨VQ h1 h2 ha.p hb.p hm⟩
theorem WU [O:CmC op g][C:Cz X B k](ha:ZE X B e f)(hb:ZE X B e' f')(hm:cX op e'=false):ZT X B (.Compare e [op] [e'] pos) (cT (c2 g f f')):=by obtain⟨r,h1,h2⟩:=O.p X B.G C.K C.r.units;exact⟨Si h1 h2 ha.p hb.p hm⟩
theorem WV [O:CmC op g][O':CmC op' g'][C:Cz X B k](ha:ZE X B e f)(hb:ZE X B e' f')(hc:ZE X B o f2)(hm:lastMarks [op,op'] [e',o]=false):ZE X B (.Compare e [op,op'] [e',o] pos) (v8 g g' f f' f2):=by obtain⟨r,h1,h2⟩:=O.p X B.G C.K C.r.units;obtain⟨r',h3,h4⟩:=O'.p X B.G C.K C.r.units;exact⟨Px h1 h3 h2 h4 ha.p hb.p hc.p hm⟩
theorem WW [O:CmC op g][O':CmC op' g'][C:Cz X B k](ha:ZE X B e f)(hb:ZE X B e' f')(hc:ZE X B o f2)(hm:lastMarks [op,op'] [e',o]=false):ZT X B (.Compare e [op,op'] [e',o] pos) (cT (v8 g g' f f' f2)):=by obtain⟨r,h1,h2⟩:=O.p X B.G C.K C.r.units;obtain⟨r',h3,h4⟩:=O'.p X B.G C.K C.r.units;exact⟨NP h1 h3 h2 h4 ha.p hb.p hc.p hm⟩
end
theorem WX(h:ZE X B e f)(he:(λwhole=>isTrue e X.env whole)=λwhole=>(do let v<-whole;standAt e.pos;holding [v] (truthy v))):ZT X B e (cT f):=⟨Sj h.p λw=>congrFun he w⟩
theorem WY(ha:ZT X B e ft)(hb:ZW X B (.BoolOp .Or (e'::es) pos) fu):ZT X B (.BoolOp .Or (e::e'::es) pos) (xn ft fu):=⟨PW.pt (O5 ha.p hb.p)⟩
theorem WZ(ha:ZT X B e ft)(hb:ZW X B (.BoolOp .And (e'::es) pos) fu):ZT X B (.BoolOp .And (e::e'::es) pos) (vp ft fu):=⟨PW.pt (Md ha.p hb.p)⟩
theorem W0 [C:Cz X B k][Q:Co B x d](hg:Gz X x)(hd:Dz x):ZE X B (.Name x pos) (cC d):=⟨PB (C.mg▸Q.p) hg hd⟩
theorem W1 [C:Cz X B k][Q:Ff B ok m](he:ZE X B e f)(hb:Az X e m):ZE X B (.Attribute e m pos) (c1 (sU ok m) f):=⟨Pf he.p (C.K▸Q.p) hb⟩
section
variable(hg:Gz X x)(hd:Dz x)(hs:Sz X e es)(hl:Lz X pos es)
include hg hd
theorem dz [C:Cz X B k][Q:Df B j x sp]:∃ps,y8 X.prog X.w X.K X.mg X.base j x ps sp:=by rw[C.P,C.w,C.K,C.mg,C.b];exact Q.p
theorem W2{g:aT->Option aT}[C:Cz X B k][Q:Df B j x (spN B.G g)](hj:dw j k=true):ZN X B (.Call (.Name x p) [] [] pos) (tp g sI):=by obtain⟨ps,q⟩:=dz hg hd (X:=X) (Q:=Q);exact⟨Py q (C.r.mono (dr.mp hj)) hg hd⟩
include hs hl
theorem W3{g:aT->Option D}[C:Cz X B k][Q:Df B j x (spF B.G g)](ha:ZA X B (e::es) a)(hj:dw j k=true):ZE X B (.Call (.Name x p) (e::es) [] pos) (r9 g a):=by obtain⟨ps,q⟩:=dz hg hd (X:=X) (Q:=Q);exact⟨Wn q (C.r.mono (dr.mp hj)) ha.p hg hd hs hl⟩
theorem W4{g:aT->Option aT}[C:Cz X B k][Q:Df B j x (spN B.G g)](ha:ZA X B (e::es) a)(hj:dw j k=true):ZN X B (.Call (.Name x p) (e::es) [] pos) (tp g a):=by obtain⟨ps,q⟩:=dz hg hd (X:=X) (Q:=Q);exact⟨SV q (C.r.mono (dr.mp hj)) ha.p hg hd hs hl⟩
theorem W5{g:aT->aT->Option (D×aT)}[C:Cz X B k][Q:Df B j x (spM B.G g)](hv:ZV X e i)(ha:ZA X B es a)(hj:dw j k=true):ZE X B (.Call (.Name x p) (e::es) [] pos) (tu g i a):=by obtain⟨ps,q⟩:=dz hg hd (X:=X) (Q:=Q);exact⟨SW q (C.r.mono (dr.mp hj)) hv.p ha.p hg hd hs hl⟩
theorem W6{g:aT->aT->Option (D×aT)}[C:Cz X B k][Q:Df B j x (spL B.G g)](ha:ZM X B (e::es) i a)(hj:dw j k=true):ZE X B (.Call (.Name x p) (e::es) [] pos) (uc g i a):=by obtain⟨ps,q⟩:=dz hg hd (X:=X) (Q:=Q);exact⟨Tu q (C.r.mono (dr.mp hj)) ha.p hg hd hs hl⟩
theorem W7{g:aT->Option (aF×aT)}{dds:aT}[C:Cz X B k][Q:Kf B j x c0 g dds](ha:ZA X B (e::es) a)(hj:dw (j+1) k=true):ZE X B (.Call (.Name x p) (e::es) [] pos) (tD c0 (λds=>g (ds++dds)) a):=by obtain⟨ps,q⟩:=Q.p;exact⟨SX (by rw[C.P,C.w,C.mg,C.b];exact q) (λH=>UL Q.f) (C.r.mono (dr.mp hj)) ha.p C.K hg hd hs hl⟩
end
theorem mz{g:Nat->Option (aT->Option D)}[C:Cz X B k][Q:Mf B j m g]:∀c h,g c=some h->zx B.G X.prog X.w X.mg X.base j m c h:=by rw[C.P,C.w,C.mg,C.b];exact Q.p
theorem W8{g:Nat->Option (aT->Option D)}{pl:Sem Bool}[C:Cz X B k][Q:Mf B j m g](ho:ZE X B o f)(hj:dw j k=true)
  (ht:eval (.Call (.Attribute o m apos) [] [] pos) X.env=(do
   let ov<-eval o X.env
   standAt apos.atName
   let (f,first)<-holding [ov] (getMethod ov m pl)
   callWith pos f first (bD pos (aA [] X.env)) (backToKw pos (dq [] X.env)))):ZE X B (.Call (.Attribute o m apos) [] [] pos) (tS g m f sI):=⟨Lb mz (C.r.mono (dr.mp hj)) ho.p C.K ht⟩
theorem W9{g:Nat->Option (aT->Option D)}{pl:Sem Bool}[C:Cz X B k][Q:Mf B j m g](ho:ZE X B o f)(ha:ZA X B (e::es) a)(hj:dw j k=true)(hs:Sz X e es)(hl:Lz X pos es)
  (ht:eval (.Call (.Attribute o m apos) (e::es) [] pos) X.env=(do
   let ov<-eval o X.env
   standAt apos.atName
   let (f,first)<-holding [ov] (getMethod ov m pl)
   callWith pos f first (bD pos (aA (e::es) X.env)) (backToKw pos (dq [] X.env)))):ZE X B (.Call (.Attribute o m apos) (e::es) [] pos) (tS g m f a):=⟨NQ mz (C.r.mono (dr.mp hj)) ho.p ha.p C.K hs hl ht⟩
section
variable(hg:Gz X x)(hd:Nz x)(hs:S1 X e)
include hg hd hs
theorem cbI{id:String}[C:Cz X B k][N:Nb B x](hc:ux X (.builtin id) r)(hv:di x=some (.builtin id))(ha:PA X [e] t):PE X (.Call (.Name x p) [e] [] pos) (tCB r t):=by simp only[bq,bG,fO]at hd;exact EV hc hg (C.mg▸N.p) hv ha hd.1 hd.2 hs rfl
theorem ctI [C:Cz X B k][N:Nb B x](hc:ux X (.type T) r)(hv:di x=some (.type T))(ha:PA X [e] t):PE X (.Call (.Name x p) [e] [] pos) (tCB r t):=by simp only[bq,bG,fO]at hd;exact Np hc hg (C.mg▸N.p) hv ha hd.1 hd.2 hs rfl
theorem Xa{g:D->Option D}[Q:B1 x g][C:Cz X B k][N:Nb B x](ha:ZE X B e f):ZE X B (.Call (.Name x p) [e] [] pos) (c1 g f):=by obtain⟨id,r,h1,h2,h3⟩:=Q.p X B.G C.K C.c;exact⟨UG h2 (cbI hg hd hs h1 h3 (u7 ha.p v3 hs))⟩
end
section
variable(hs:S1 X e)
include hs
theorem Xb [C:Cz X B k][N:Nb B "list"](hg:Gz X "list")(ha:ZE X B e f):ZN X B (.Call (.Name "list" p) [e] [] pos) (Ar f):=⟨Pt (ctI hg (by decide) hs (La C.K) o6 (u7 ha.p v3 hs))⟩
theorem Xc [C:Cz X B k][N:Nb B "tuple"](hg:Gz X "tuple")(ha:ZE X B e f):ZE X B (.Call (.Name "tuple" p) [e] [] pos) (G8 f):=⟨Pu (ctI hg (by decide) hs (NN C.K) oW (u7 ha.p v3 hs))⟩
theorem Xd [C:Cz X B k][N:Nb B "sorted"](hg:Gz X "sorted")(ha:ZE X B e f):ZN X B (.Call (.Name "sorted" p) [e] [] pos) (FC f):=⟨Ls (cbI hg (by decide) hs (IH C.r.units C.K) kU (u7 ha.p v3 hs))⟩
theorem Xe [C:Cz X B k][N:Nb B "sorted"](hg:Gz X "sorted")(ha:ZE X B e f):ZN X B (.Call (.Name "sorted" p) [e] [] pos) (Du f):=⟨J6 (cbI hg (by decide) hs (GE C.K) kU (u7 ha.p v3 hs))⟩
theorem Xf [C:Cz X B k][N:Nb B "len"][N':Nb B "set"](hg:Gz X "len")(hg':Gz X "set")(ha:ZE X B e f)(z:aA [Expr.Call (.Name "set" p2) [e] [] p3] X.env=[(false,eval (.Call (.Name "set" p2) [e] [] p3) X.env)]):ZE X B (.Call (.Name "len" p) [.Call (.Name "set" p2) [e] [] p3] [] pos) (c1 IB f):=⟨NX C.K (NW Z8 C.r.units C.c hg (C.mg▸N.p) hg' (C.mg▸N'.p) ha.p z hs)⟩
theorem Xg [C:Cz X B k][N:Nb B "range"](hg:Gz X "range")(ha:ZE X B e f):ZI X B tg (.Call (.Name "range" p) [e] [] pos) (iR1 f):=⟨K9 (Ng hg (C.mg▸N.p) (u7 ha.p v3 hs) hs)⟩
end
section
variable(hi:Gz X "isinstance")(hg:Gz X x)(hs:aA [e,.Name x p2] X.env=[(false,eval e X.env),(false,eval (.Name x p2) X.env)])(hs':S1 X (.Name x p2))
include hi hg hs hs'
theorem Xh [Q:KtC x T][C:Cz X B k][N:Nb B "isinstance"][N':Nb B x](ha:ZE X B e f)(hd:Nz x):ZE X B (.Call (.Name "isinstance" p) [e,.Name x p2] [] pos) (c1 (xt (vq T)) f):=by
 simp only[bq,bG,fO]at hd;refine⟨Mp (c:=.b T) (EV (G7 (.b T) (Q.p.1 X B.G) PD C.K) hi (C.mg▸N.p) og (uD ha.p (uD (RA (v:=.ty T) hg (C.mg▸N'.p) Q.p.2 rfl hd.1 hd.2) yc ?_) ?_) (by decide) (by decide) ?_ ?_)⟩
 ·exact hs'
 ·rw[hs,hs']
 ·rw[hs,hs']
 ·rw[hs'];rfl
theorem Xi [Q:Ic B x t][C:Cz X B k][N:Nb B "isinstance"](ha:ZE X B e f)(hd:Dz x):ZE X B (.Call (.Name "isinstance" p) [e,.Name x p2] [] pos) (c1 (xt t) f):=by
 obtain⟨c,q1,q2⟩:=Q.p;refine⟨Mp (c:=.c c) (EV (Le q1 C.K) hi (C.mg▸N.p) og (uD ha.p (uD (LV (v:=.ref (B.G.ca c)) hg (C.mg▸q2) rfl hd) yc ?_) ?_) (by decide) (by decide) ?_ ?_)⟩
 ·exact hs'
 ·rw[hs,hs']
 ·rw[hs,hs']
 ·rw[hs'];rfl
end
section
variable(hb:Az X o m)(hl:Ez apos pos)(hs:S1 X e)
include hb hl hs
theorem bmI{id:String}[C:Cz X B k](pa:kY T)(slot:Slot T m id)(hty:typeOf (.builtin id)=pure (.type "method_descriptor"))(hm:MtR X id r)(ho:PE X o to)(ha:PA X [e] t):PE X (.Call (.Attribute o m apos) [e] [] pos) (tBM B.G.K T r to t):=
 O2 B.G.K pa slot hty hm ho ha hb (by rw[hs];rfl) hl hs rfl C.K
end
section
variable(h:sees X i x=true)(hb:Az X (.Name x p) m)(hl:Ez apos pos)(hs:S1 X e)
include h hb hl hs
theorem Xj [C:Cz X B k](hm:m="append")(ha:ZE X B e f):ZE X B (.Call (.Attribute (.Name x p) m apos) [e] [] pos) (vX i f):=by subst hm;exact⟨NG (bmI hb hl hs fP j2 m7 CY (pvI h) (u7 ha.p v3 hs))⟩
theorem Xk [C:Cz X B k](hm:m="extend")(ha:ZE X B e f):ZE X B (.Call (.Attribute (.Name x p) m apos) [e] [] pos) (DQ i f):=by subst hm;exact⟨Lg (bmI hb hl hs fP j3 F.type_list_extend (C.K▸Lf) (pvI h) (uD ha.p yc hs))⟩
theorem Xl [C:Cz X B k](hm:m="pop")(ha:ZE X B e f):ZE X B (.Call (.Attribute (.Name x p) m apos) [e] [] pos) (BN i f):=by subst hm;exact⟨Qh (bmI hb hl hs fP j9 oh Jq (pvI h) (u7 ha.p v3 hs))⟩
end
theorem Xm [C:Cz X B k](h:sees X i x=true)(hb:Az X (.Name x p) "pop")(hl:Ez apos pos)(hs:S1 X (.Constant (.int 0) j p2)):ZE X B (.Call (.Attribute (.Name x p) "pop" apos) [.Constant (.int 0) j p2] [] pos) (Mi i):=⟨SJ (bmI hb hl hs fP j9 oh Jq (pvI h) (uD KH yc hs))⟩
theorem Xn [C:Cz X B k](ha:ZE X B e f)(hb:ZE X B e' f')(h1:Az X e "get")(h2:Ez apos pos)(h3:S1 X e'):ZE X B (.Call (.Attribute e "get" apos) [e'] [] pos) (c2 G9 f f'):=⟨PK (GV C.r) ha.p hb.p ⟨h1,by rw[h3];rfl,h2,by rw[h3];rfl⟩⟩
theorem Xo [C:Cz X B k][Q:Af B c0 xs](hx:xs.contains m=true)(h:sees X i x=true)(hv:ZE X B e f)(hs:Wz X e (.Attribute (.Name x p) m apos) pos):ZS X B (.Assign [.Attribute (.Name x p) m apos] e pos) (tI c0 i m f):=⟨SI (Vs (pvI h) hv.p hs) (by obtain⟨i,_,e⟩:=jX (mH.mp hx);exact C.K▸Q.p.at i (bW.mpr ⟨_,e⟩))⟩
theorem Xp [C:Cz X B k](h:sees X i x=true)(hk:ZE X B e' f')(hv:ZE X B e f)(hs:Wz X e (.Subscript (.Name x p) e' apos) pos):ZS X B (.Assign [.Subscript (.Name x p) e' apos] e pos) (tW i f' f):=⟨PM (RZ (GV C.r) (pvI h) hk.p hv.p hs)⟩
theorem Xq [Q:Ij B n](h:ZE X B e f):ZE X B e (yD n f):=⟨Ti Q.p h.p⟩
section
variable{ks:List (Option Expr)}{kfs:List (Str×FE)}
theorem Xr:ZP X B pos [] [] []:=⟨R0⟩
theorem Xs(hv:ZE X B e f)(hr:ZP X B pos ks es kfs):ZP X B pos (some (.Constant (.str y) j p)::ks) (e::es) ((y,f)::kfs):=⟨OU Ov hv.p hr.p⟩
theorem Xt(h:ZP X B pos ks es kfs)(h1:(ks.all (·.isSome)&&decide (ks.length=es.length)&&!ks.isEmpty&&decide (ks.length<=15)&&decide (kfs.map λq=>(Sum.inr q.1:Key)).Nodup&&decide (kfs.length<=15))=true):ZE X B (.Dict ks es pos) (za kfs):=by simp only[bq,bG,fO]at h1;obtain⟨⟨⟨⟨⟨a1,a2⟩,a3⟩,a4⟩,a5⟩,a6⟩:=h1;exact⟨Mx (R7 h.p a1 a2 (λz=>by rw[z]at a3;cases a3) a4) a5 a6⟩
end
theorem Xu{lo:Option Expr}{fl:FO}[C:Cz X B k](he:ZE X B e f)(hl:ZO X B lo fl)(hh:ZO X B hi fh):ZN X B (.Subscript e (.Slice lo hi none p) pos) (xK f fl fh):=⟨Lc (EY (Z0 C.K) he.p hl.p hh.p)⟩
theorem Xv{lo:Option Expr}[C:Cz X B k](he:ZE X B e f)(hl:ZK X lo l)(hh:ZK X hi h):ZN X B (.Subscript e (.Slice lo hi none p) pos) (cSl f l h):=⟨NO (EY (Z0 C.K) he.p hl.p hh.p)⟩
theorem Xw:ZK X (some (.Constant (.int y) j pos)) (some y):=⟨Pw⟩
theorem Xx:ZK X none none:=⟨ZZ⟩
theorem Xy [C:Cz X B k](h:ZE X B e f):ZI X B tg e (iL f):=⟨JE (Jw B.G.K h.p C.K)⟩
theorem Xz [C:Cz X B k](h:ZE X B e f):ZI X B tg e (iT f):=⟨SN (Se B.G.K h.p C.K)⟩
theorem XA(h:ZE X B e f):ZI X B tg e (iD f):=⟨P3 (Tf h.p)⟩
theorem XB(h:ZE X B e f):ZI X B tg e (iS f):=⟨S5 (VJ h.p)⟩
theorem XC(h:ZE X B o f)(hb:Az X o "items")(hl:Ez apos pos):ZI X B (.Tuple elts x1 p) (.Call (.Attribute o "items" apos) [] [] pos) (iIt f):=⟨N0 (Qe h.p hb hl)⟩
section
variable(hg:Gz X "zip")(hs:aA [e,e'] X.env=[(false,eval e X.env),(false,eval e' X.env)])(hs2:S1 X e')
include hg hs hs2
theorem XD [C:Cz X B k][N:Nb B "zip"](ha:ZA X B [e,e'] a):ZI X B (.Tuple es i p2) (.Call (.Name "zip" p) [e,e'] [] pos) (iZ a):=⟨Tg (WD hg (C.mg▸N.p) ha.p hs hs2)⟩
end
section
variable{gg:FG}{gs:aT->bg->Option bg}
theorem TH:ZH X B [] n Fc:=⟨Su RE⟩
theorem TJ(h1:ZG X B e n gg)(h2:ZH X B es n gs)(hs:(cP (e::es) X.env).map (·.2)=assign e X.env::(cP es X.env).map (·.2)):ZH X B (e::es) n (v7 gg gs):=⟨Pc (Ox h1.p h2.p hs)⟩
theorem TL [C:Cz X B k](h:ZH X B es n gs)(hn:(cP es X.env).length=n')(ht:(cP es X.env).findIdx? (·.1)=none):ZG X B (.Tuple es k' pos) n (gT gs n'):=⟨Sv (Sf B.G.K C.c h.p hn ht C.K)⟩
end
def tgN:Expr->aF
 |.Name x _=>[x]
 |.Tuple es _ _=>es.filterMap λe=>match e with|.Name x _=>some x|_=>none
 |_=>[]
def cpN(X:Cx)(tg:Expr)(cap:List Nat):aF:=tgN tg++cap.map λj=>X.N.getD j ""
instance inCz [C:Cz X B k]{N':aF}{sc:cR}{cl:List (Str×Addr)}{A:Addr}{fp:List Addr}{s:ag}{H:Hp}:Cz (uz X N' sc cl A fp s H) B k:=⟨C.P,C.w,C.K,C.mg,C.b,C.c,C.r⟩
def XE(X:Cx)(N':aF)(sc:cR)(n:Nat)(cap:List Nat):Bool:=decide cap.Nodup&&decide (sc.kind=.function)&&(sc.names.all λy=>y.2 != .cell)&&(sc.names.all λy=>y.2 != .local||sc.names.lookup y.1==some .local)&&(sc.names.all λy=>y.2 != .free||(X.env.kindOf y.1==some .cell||X.env.kindOf y.1==some .free))&&decide (N'.length=n+cap.length)&&decide ((N'.drop n).map some=cap.map λj=>X.N[j]?)&&((N'.drop n).all λx=>sc.names.lookup x==some .free)
section
variable{sc:cR}{cap:List Nat}{ifs:List Expr}{gg:FG}{ft:FT}{s:FA}
 (h0:XE X (cpN X tg cap) sc n cap=true) (hs:Fz X it) (hi:ZI X B tg it s)
 (h1:∀(cl:List (Str×Addr)) (A:Addr) (fp:List Addr) (s:ag) (H:Hp),ZG (uz X (cpN X tg cap) sc cl A fp s H) B tg n gg)
 (h2:∀(cl:List (Str×Addr)) (A:Addr) (fp:List Addr) (s:ag) (H:Hp),ZF (uz X (cpN X tg cap) sc cl A fp s H) B ifs ft)
 (h3:∀(cl:List (Str×Addr)) (A:Addr) (fp:List Addr) (s:ag) (H:Hp),ZE (uz X (cpN X tg cap) sc cl A fp s H) B e f)
include h0 hs hi h1 h2 h3
theorem XF [C:Cz X B k]:ZN X B (.ListComp e [⟨tg,it,ifs,0⟩] sc pos) (sR n cap s gg ft f):=by unfold XE at h0;simp only[bq,bG]at h0;obtain⟨⟨⟨⟨⟨⟨⟨a1,a2⟩,a3⟩,a4⟩,a5⟩,a6⟩,a7⟩,a8⟩:=h0;exact⟨Pm a1 (Sb (N':=cpN X tg cap) C.c hi.p (λcl A fp s H=>⟨(h1 cl A fp s H).p,(h2 cl A fp s H).p,(h3 cl A fp s H).p⟩) a2 a3 a4 a5 a6 a7 a8 λx=>congrFun hs x)⟩
theorem cpW [C:Cz X B k](h:sets X i x=true)(hw:dt (.ListComp e [⟨tg,it,ifs,0⟩] sc pos) (some (.Name x p)) apos.line X.env=pure true):PS X (.Assign [.Name x p] (.ListComp e [⟨tg,it,ifs,0⟩] sc pos) apos) (CU (E7 (tFI B.G s) (tFG B.G n gg) (tFT B.G ft) (tF B.G f) n cap) (yZ i))/\cap.Nodup:=by unfold XE at h0;simp only[bq,bG]at h0;obtain⟨⟨⟨⟨⟨⟨⟨a1,a2⟩,a3⟩,a4⟩,a5⟩,a6⟩,a7⟩,a8⟩:=h0;obtain⟨b1,b2,b3,b4⟩:=IQ h;exact⟨SZ (N':=cpN X tg cap) C.c b1 b2 b3 hi.p (λcl A fp s H=>⟨(h1 cl A fp s H).p,(h2 cl A fp s H).p,(h3 cl A fp s H).p⟩) a2 a3 a4 a5 a6 a7 a8 (λx=>congrFun hs x) hw b4,a1⟩
theorem XG [C:Cz X B k](h:sets X i x=true)(hw:dt (.ListComp e [⟨tg,it,ifs,0⟩] sc pos) (some (.Name x p)) apos.line X.env=pure true):ZS X B (.Assign [.Name x p] (.ListComp e [⟨tg,it,ifs,0⟩] sc pos) apos) (sO i (cL (sR n cap s gg ft f))):=by have z:=cpW (k:=k) h0 hs hi h1 h2 h3 h hw;exact⟨PH z.2 z.1⟩
end
section
variable{st:Stmt}{sts:List Stmt}{fs fs':FS}{ft:FT}{a':FA}{z1:Nat}
theorem aae(ha:ZE X B e f)(hr:ZA X B es a)(hs:Sz X e es):ZA X B (e::es) (rV f a):=⟨u7 ha.p hr.p hs⟩
theorem aaf:ZA X B [] sI:=⟨v3⟩
theorem XH(ha:ZE X B e f)(hr:ZM X B es i a)(hs:Sz X e es):ZM X B (e::es) i (rV f a):=⟨N2 ha.p hr.p hs⟩
theorem XI(h:sees X i x=true)(hs:S1 X (.Name x p)):ZM X B [.Name x p] i sI:=⟨Qg (pvI h) hs⟩
theorem XJ(h:sees X i x=true):ZV X (.Name x p) i:=⟨pvI h⟩
theorem XM(h:ZN X B e a):ZE X B e (cL a):=⟨VX h.p⟩
theorem aag:ZE X B (.Constant (.str y) j pos) (cC (.str y)):=⟨VO⟩
theorem aah:ZE X B (.Constant (.int y) j pos) (cC (.int y)):=⟨VN⟩
theorem aai:ZE X B (.Constant (.bool y) j pos) (cC (.bl y)):=⟨Zr⟩
theorem aaj:ZE X B (.Constant .none j pos) (cC .non):=⟨VP⟩
theorem Qu(h1:ZS X B st fs)(h2:ZB X B sts fs'):ZB X B (st::sts) (r6 fs fs'):=⟨O7 h1.p h2.p⟩
theorem aak(h1:ZS X B st fs):ZB X B [st] fs:=⟨Sr h1.p⟩
theorem aal:ZB X B [] sF:=⟨Sq⟩
theorem XN(h:ZE X B e f):ZS X B (.Return (some e) pos) (sy f):=⟨Ss h.p⟩
theorem XO(h:ZN X B e a):ZS X B (.Return (some e) pos) (uI a):=⟨O8 h.p⟩
theorem XQ(h:ZE X B e f)(hs:dt e none pos.line X.env=pure false):ZS X B (.Expr e pos) (sY f):=⟨O9 h.p hs⟩
theorem XR(h:ZT X B e ft)(h1:ZB X B sts fs)(h2:ZB X B sts' fs'):ZS X B (.If e sts sts' pos) (sIf ft fs fs'):=⟨VZ h.p h1.p h2.p⟩
theorem XS:ZE X B e Fp:=⟨PQ⟩
theorem XT(h:ZA X B es a):ZN X B (.List es pos) (sN a):=⟨Sn h.p⟩
theorem XU(h:ZA X B es a):ZE X B (.Tuple es z1 pos) (tL a):=⟨VW h.p⟩
theorem XW(ha:ZE X B e f)(hb:ZE X B e' f'):ZN X B (.BinOp e .Add e' pos) (uW f f'):=⟨SR ha.p hb.p⟩
theorem XX [C:Cz X B k](ha:ZE X B e f)(hb:ZE X B e' f'):ZE X B (.BinOp e .Add e' pos) (DP f f'):=⟨S6 ha.p hb.p C.K⟩
theorem XY(ha:ZE X B e f)(hb:ZE X B (.BoolOp .And (e'::es) pos) f'):ZE X B (.BoolOp .And (e::e'::es) pos) (uf f f'):=⟨VT ha.p hb.p⟩
theorem XZ(ha:ZE X B e f)(hb:ZE X B (.BoolOp .Or (e'::es) pos) f'):ZE X B (.BoolOp .Or (e::e'::es) pos) (cOr f f'):=⟨Zv ha.p hb.p⟩
theorem X0{op}(ha:ZE X B e f):ZE X B (.BoolOp op [e] pos) f:=⟨VS ha.p⟩
theorem X1(ha:ZE X B e f):ZE X B (.UnaryOp .Not e pos) (Dd f):=⟨VU ha.p⟩
theorem X2(ha:ZT X B e ft):ZT X B (.UnaryOp .Not e pos) (wc ft):=⟨Sk ha.p⟩
theorem X3(h:ZT X B o ft)(ha:ZE X B e f)(hb:ZE X B e' f'):ZE X B (.IfExp o e e' pos) (cIf ft f f'):=⟨Zw h.p ha.p hb.p⟩
theorem aam(h:ZT X B e ft):ZF X B [e] ft:=⟨Sa h.p⟩
theorem aan:ZF X B [] ua:=⟨Pn⟩
theorem X4(h:ZE X B e f):ZE X B e (Ce f):=⟨Wm h.p⟩
theorem X5(h:ZT X B e ft):ZT X B e (Br ft):=⟨SU h.p⟩
theorem X6(h:ZE X B e f):ZO X B (some e) (oAt f):=⟨Wt h.p⟩
theorem X7:ZO X B none oNo:=⟨Ws⟩
theorem X8(ha:ZT X B e ft)(hb:ZW X B (.BoolOp .Or (e'::es) pos) fu):ZW X B (.BoolOp .Or (e::e'::es) pos) (xn ft fu):=⟨O5 ha.p hb.p⟩
theorem X9(ha:ZT X B e ft)(hb:ZW X B (.BoolOp .And (e'::es) pos) fu):ZW X B (.BoolOp .And (e::e'::es) pos) (vp ft fu):=⟨Md ha.p hb.p⟩
theorem Ya(h:ZT X B e ft):ZW X B (.BoolOp .Or [e] pos) ft:=⟨Sm h.p⟩
theorem Yc(h:ZT X B e ft):ZW X B (.BoolOp .And [e] pos) ft:=⟨O4 h.p⟩
end
theorem Yd [C:Cz X B k](hp:jn (model X.prog X.w) X.A X.env X.xe)(hn:X.N.length=n)(hi:ZI X B tg it s)(hg:ZG X B tg n gg)(hb:ZB X B body b)(hs:Fz X it):ZS X B (.For tg it body [] pos) (vY s gg b):=⟨SO (OC hp C.c hi.p hg.p hb.p λx=>congrFun hs x)⟩
theorem Ye(hp:jn (model X.prog X.w) X.A X.env X.xe)(hc:ZT X B e ft)(hb:ZB X B body b):ZS X B (.While e body [] pos) (whL ft b n):=⟨NH n (Oz hp hc.p hb.p)⟩
end
end L4
namespace L4
open PySem PySem.Spec PyProof.Rows L2 L3
open PySem.W (fnOf)
def nmO(st:Stmt):aF:=(sM st).names.filterMap λy=>match y.2 with|.local=>some y.1|.cell=>some y.1|_=>none
def psO(st:Stmt):aF:=(wz st).args.map (·.arg)
def okO(N ps:aF)(st:Stmt)(np n:Nat):Bool:=decide ((sM st).kind=.function)&&(sM st).isCoroutine==false&&(sM st).isGenerator==false&&decide N.Nodup&&decide (N.take ps.length=ps)&&(ps.all λx=>match (sM st).names.lookup x with|some .local=>true|some .cell=>true|_=>false)&&((sM st).names.all λy=>y.2 != .free)&&decide (ps.length=np)&&decide (N.length=n)
theorem okk{st:Stmt}(h:okO N ps st np n=true):uu N ps (sM st)/\ps.length=np/\N.length=n:=by
 unfold okO at h;simp only[bq,bG,beq_iff_eq]at h;obtain⟨⟨⟨⟨⟨⟨⟨⟨h1,h2⟩,h3⟩,h4⟩,h5⟩,h6⟩,h7⟩,h8⟩,h9⟩:=h;refine⟨⟨h1,h2,h3,h4,h5,λx hx=>?_,λy hy e=>?_⟩,h8,h9⟩
 ·have z:=bJ.mp h6 x hx;split at z
  ·rename_i e;exact .inl e
  ·rename_i e;exact .inr e
  ·cases z
 ·have z:=bJ.mp h7 y hy;rw[e]at z;exact au z (by decide)
section
variable{B:Bz}[Y:Yb B]{x m qual:Str}{st s0:Stmt}{l:List Stmt}{k c np n:Nat}{b:FS}{p:Str}{ps xs:aF}{N:aF}
abbrev Bdz(B:Bz)(N:aF)(qual:Str)(st:Stmt)(l:List Stmt)(k:Nat)(b:FS):Prop:=∀{f:Addr} {cdv:ae} {A:aS} {outer:List Env} {s:ag} {H:Hp} {E:XK} [Cz (Bs B.P B.w B.G.K B.mg B.base N qual st f cdv A outer s H E) B k],ZB (Bs B.P B.w B.G.K B.mg B.base N qual st f cdv A outer s H E) B l b
omit Y in
theorem Bdz.ok(h:Bdz B N qual st l k b)(hl:tG st=l):Bdy B.P B.w B.G.K B.mg B.base N qual st k (tFS B.G b):=λf cdv A outer s H E hr=>by subst hl;exact(@h f cdv A outer s H E ⟨rfl,rfl,rfl,rfl,rfl,rfl,hr⟩).p
theorem gF4(hg:g=fnD np n b)(q:GD B.G.K x st)(hl:tG st=s0::l)(body:Bdz B (nmO st) x st (s0::l) k b)(S:okO (nmO st) (psO st) st np n=true:=by kernel_rfl)(bd:Bds x x st (psO st):=by (repeat intro _);rfl):Df B (k+1) x (spF B.G g):=
 ⟨_,gF hg Y.y q (okk S).1 (body.ok hl) (okk S).2.1 (okk S).2.2 bd⟩
theorem gF5(N:aF)(hg:g=fnD np n b)(q:GD B.G.K x st)(hl:tG st=s0::l)(body:Bdz B N x st (s0::l) k b)(S:okO N (psO st) st np n=true:=by kernel_rfl)(bd:Bds x x st (psO st):=by (repeat intro _);rfl):Df B (k+1) x (spF B.G g):=
 ⟨_,gF hg Y.y q (okk S).1 (body.ok hl) (okk S).2.1 (okk S).2.2 bd⟩
theorem gN4(hg:g=fnN np n b)(q:GD B.G.K x st)(hl:tG st=s0::l)(body:Bdz B (nmO st) x st (s0::l) k b)(S:okO (nmO st) (psO st) st np n=true:=by kernel_rfl)(bd:Bds x x st (psO st):=by (repeat intro _);rfl):Df B (k+1) x (spN B.G g):=
 ⟨_,gN' hg Y.y q (okk S).1 (body.ok hl) (okk S).2.1 (okk S).2.2 bd⟩
theorem gL4(hg:g=fnL np n b)(q:GD B.G.K x st)(hl:tG st=s0::l)(body:Bdz B (nmO st) x st (s0::l) k b)(S:okO (nmO st) (psO st) st (np+1) n=true:=by kernel_rfl)(bd:Bds x x st (psO st):=by (repeat intro _);rfl):Df B (k+1) x (spL B.G g):=
 ⟨_,gL hg Y.y q (okk S).1 (body.ok hl) (okk S).2.1 (okk S).2.2 bd⟩
theorem gM4(hg:g=fnM np n b)(q:GD B.G.K x st)(hl:tG st=s0::l)(hp:psO st=p::ps)(body:Bdz B (nmO st) x st (s0::l) k b)(S:okO (nmO st) (p::ps) st (np+1) n=true:=by kernel_rfl)(bd:Bds x x st (p::ps):=by (repeat intro _);rfl):Df B (k+1) x (spM B.G g):=
 ⟨_,gM hg Y.y q (okk S).1 (body.ok hl) (hG (okk S).2.1) (okk S).2.2 bd⟩
theorem hF4(C:CF B.G.K (B.G.ca c) xs)(hg:g=fnD np n b)(q:GM B.G.K (B.G.ca c) m qual st)(hl:tG st=s0::l)(body:Bdz B (nmO st) qual st (s0::l) k b)(S:okO (nmO st) (psO st) st np n=true:=by kernel_rfl)(bd:Bds m qual st (psO st):=by (repeat intro _);rfl):zx B.G B.P B.w B.mg B.base (k+1) m c g:=by obtain⟨f,fd,a,i,F⟩:=q;exact⟨f,fd,_,C.ci.cl,⟨a,i,F.kp⟩,bd.ok F,Pz hg (okk S).2.1 (okk S).2.2 F (okk S).1 (body.ok hl f)⟩
theorem gI4(C:CF B.G.K (B.G.ca c) xs)(a:ic B.G.K aX x=some (some (.ref (B.G.ca c))))(hg:g=fnI c np n b)(q:GM B.G.K (B.G.ca c) "__init__" qual st)(hl:tG st=s0::l)(hp:psO st=p::ps)(body:Bdz B (nmO st) qual st (s0::l) k b)(S:okO (nmO st) (p::ps) st (np+1) n=true:=by kernel_rfl)(bd:Bds "__init__" qual st (p::ps):=by (repeat intro _);rfl):Kf B (k+1) x c g []:=
 ⟨⟨_,gI hg Y.y C a q (okk S).1 (body.ok hl) (hG (okk S).2.1) (okk S).2.2 bd⟩,rfl⟩
theorem gJ4{dds:aT}(C:CF B.G.K (B.G.ca c) xs)(a:ic B.G.K aX x=some (some (.ref (B.G.ca c))))(hg:g=fnI c np n b)(q:GJ B.G.K (B.G.ca c) qual st (dds.map vD))(hl:tG st=s0::l)(hp:psO st=p::ps)(body:Bdz B (nmO st) qual st (s0::l) k b)(j:Nat)(S:okO (nmO st) (p::ps) st (np+1) n=true:=by kernel_rfl)(hf:dds.all vA=true:=by rfl)
  (bd:Lv (dds.map vD).length λdl=>Lv ((p::ps).length - ((dds.map vD).drop j).length) λus=>∀(T:Addr) (kV doc pm:ae) (an:Option Addr) (cdv ct:ae),∃k,bindArgs (fnOf "__init__" qual (wz st) (tG st) (sM st) (.ref T) kV doc pm an cdv ct) ⟨us,[]⟩=seqItems? (.ref T)>>=k/\k (some dl.toArray)=pure ((p::ps).zip (us++dl.drop j)):=by (repeat intro _);exact⟨_,rfl,rfl⟩):Kf B (k+1) x c g (dds.drop j):=
 ⟨⟨_,by rw[fV];exact gJ hg Y.y C a q (okk S).1 (body.ok hl) j (hG (okk S).2.1) (okk S).2.2 bd⟩,by
  rw[bJ]at hf ⊢;exact λd h=>hf d (jU h)⟩
theorem TM(n:Nat)(ca:Nat->Addr):∀k,k<n->((bH n).map ca).getD k 0=ca k:=λk h=>by rw[cy,bB,mQ h];rfl
theorem injR{n:Nat}{ca:Nat->Addr}(h:decide ((bH n).map ca).Nodup=true):∀j k,j<n->k<n->ca j=ca k->j=k:=λj k hj hk e=>by rw[<-TM n ca j hj,<- TM n ca k hk]at e;exact WI (bu h) (by simpa using hj) (by simpa using hk) e
def Oa:Nat->(Nat->Prop)->Prop
 |0,_=>True
 |n+1,Q=>Q 0/\Oa n λk=>Q (k+1)
theorem Oa.at:∀{n:Nat} {Q:Nat->Prop},Oa n Q->∀k,k<n->Q k
 |_+1,_,h,0,_=>h.1
 |_+1,_,h,k+1,hk=>Oa.at (Q:=λk=>_) h.2 k (gB hk)
end
section
variable{X:Cx}{B:Bz}{k j i n:Nat}{x y:Str}{e e' tg:Expr}{es:List Expr}{p p2 p3 pos apos:Pos}{f f':FE}{a:FA}{st:Stmt}{sts:List Stmt}{fs fs':FS}{ft:FT}
theorem Yf [C:Cz X B k](ha:ZE X B e f)(hb:ZE X B e' f')(hm:cX .In e'=false):ZT X B (.Compare e [.In] [e'] pos) (cT (c2 (BK false) f f')):=⟨Tw (GV C.r) ha.p hb.p hm⟩
theorem Yg [C:Cz X B k](ha:ZE X B e f)(hb:ZE X B e' f')(hm:cX .In e'=false):ZE X B (.Compare e [.In] [e'] pos) (c2 (BK false) f f'):=⟨Wu (GV C.r) ha.p hb.p hm⟩
theorem Yh [C:Cz X B k](ha:ZE X B e f)(hb:ZE X B e' f')(hc:ZE X B e2 f2)(h1:Az X e "get")(h2:Ez apos pos)(h3:aA [e',e2] X.env=[(false,eval e' X.env),(false,eval e2 X.env)]):ZE X B (.Call (.Attribute e "get" apos) [e',e2] [] pos) (He f f' f2):=⟨PR (GV C.r) ha.p hb.p hc.p ⟨h1,by rw[h3];rfl,h2,by rw[h3];rfl⟩⟩
theorem Yi(hn:X.N.length=n)(he:ZE X B e f)(hg:ZG X B tg n gg)(hs:swapsWithSole [tg] e pos.line X.env=pure false)(hw:swappedStores [tg] e X.env=pure none)(h1:(cP [tg] X.env).map (·.2)=[assign tg X.env]):ZS X B (.Assign [tg] e pos) (K7 f gg):=⟨Sw (Ve he.p hg.p hs hw h1)⟩
theorem Yj [C:Cz X B k][N:Nb B "int"](hg:Gz X "int")(hs:S1 X e)(ha:ZE X B e f):ZE X B (.Call (.Name "int" p) [e] [] pos) (c1 JI f):=⟨UG Wk (ctI hg (by decide) hs Ni ph (u7 ha.p v3 hs))⟩
theorem Yk [C:Cz X B k](hm:m="index")(ha:ZE X B e f)(hb:ZE X B e' f')(h1:Az X e m)(h2:Ez apos pos)(h3:S1 X e'):ZE X B (.Call (.Attribute e m apos) [e'] [] pos) (c2 xh f f'):=by subst hm;exact⟨N8 (bmI h1 h2 h3 fP nH F.type_list_index (N9 C.K) ha.p (u7 hb.p v3 h3))⟩
end
end L4
namespace L4
open PySem PySem.Spec PyProof.Rows L2 L3
section
variable{X:Cx}{G:Bg}
def TN:D->D->Option D
 |.dic ks _,.dic [] _=>some (.bl (!ks.isEmpty))
 |_,_=>none
def rNeE:R2:=λx y H Q=>∃a b kvs,x=.ref a/\y=.ref b/\Rd H a (.dK kvs)/\Rd H b (.dK [])/\Q (.bl (!kvs.isEmpty)) H
theorem Yl(hu:X.A.units<cLine):OpR X (br .NotEq) rNeE:=by
 intro pins s σ H x y v u Q I rx ry h;obtain⟨a,b,kvs,ex,ey,ea,eb,q⟩:=h;subst ex ey;cases (show v=Value.ref a from rx);cases (show u=Value.ref b from ry);obtain⟨z,hd,vs,rel,dd⟩:=Bo I.hok ea;obtain⟨z',hd',vs',rel',dd'⟩:=Bo I.hok eb;cases rel';refine W.keq_ne hd hd' dd dd' hu (r:=true) (λe=>?_) ?_
 ·cases vs with
  |nil=>exact .nil
  |cons _ _=>cases e
 ·refine⟨.bl (!kvs.isEmpty),H,I,?_,q⟩;show Value.bool _=Value.bool _;cases rel<;>rfl
theorem Ym:OpD G rNeE TN:=λx y z H0 H v u Q e s rx ry k=>by
 cases x with
 |dic ks ds=>
  cases y with
  |dic ks' ds'=>
   cases ks' with
   |nil=>
    cases e;unfold Rep at rx ry;obtain⟨p,ob,xs,rfl,h1,h2,h3⟩:=rx;obtain⟨p',ob',xs',rfl,h1',h2',h3'⟩:=ry;refine⟨p,p',ks.zip xs,rfl,rfl,.inr ⟨ob,s _ _ h1⟩,.inr ⟨ob',?_⟩,?_⟩
    ·exact s _ _ h1'
    ·have:(ks.zip xs).isEmpty=ks.isEmpty:=by
      cases ks with
      |nil=>rfl
      |cons a r=>cases xs with
       |nil=>cases h2
       |cons _ _=>rfl
     rw[this];exact k _ λ_ _=>vm _
   |cons _ _=>cases e
  |_=>cases e
 |_=>cases e
theorem Qv:PE X (.Dict [] [] pos) (OV []):=PE.weak E3 λσ H Q hh p e=>by
 obtain⟨_,kvs,e1,_,q⟩:=hh p e;cases kvs with
 |nil=>
  have:upd (upd H p (.dK [])) p (.dK (An [] []))=upd H p (.dK []):=by
   funext a
   unfold upd;split<;>rfl
  rw[this]at q;exact q
 |cons _ _=>cases e1
theorem Qw:PE X (.Dict [] [] pos) (tF G (za [])):=Mx Qv gZ (cu _)
end
instance inNeE:CmC .NotEq TN:=⟨λ_ _ _ u=>⟨_,Yl (by omega),Ym⟩⟩
theorem Yn:ZE X B (.Dict [] [] pos) (za []):=⟨Qw⟩
theorem sub_dict_dict:isSubtype (.type "dict") (.type "dict")=pure true:=by rw[kl];kernel_rfl
section
variable{prog:aV}{w:aL}{A:aS}{E:ae->ag->Prop}{s:ag}
theorem IR(hh:A.handled=none)(hd:(d==cN)=false)(ho:s.heap.get? d=some o)(hc:o.cls=.type "dict")(hm:s.heap.DictAt (sQ prog w) d kvs ep)(hn:kvs.length<=1000)
  (hQ:∀h2 k2 acc,s.heap.objs.size<=h2.objs.size->(∀b o,s.heap.get? b=some o->h2.get? b=some o)->ItemsOf (λi v=>∃k x,kvs[i]?=some (k,x)/\(sQ prog w).is k v=true) acc kvs.length->Q acc.toList { s with heap:=h2,toks:=k2 }):ai (model prog w) A (collect (.ref d)) Q E s:=by
 have hlt:=aQ ho;let lO:Obj:={ cls:=.type "list", data:=.seq ([]:List ae).toArray };unfold collect;refine aq (oB (dE F.entry_proto_collect ?_));rw[dY F.plain_proto_collect _];show ai _ A.in1 (newList []>>=λl=>again (.builtin "list.__iadd__" ⟨[l,.ref d],[]⟩)) _ _ s;refine aq (fN ?_);refine aB ⟨fU nI _,dE F.entry_list_iadd ?_⟩;rw[dY nI _];show ai _ A.in1 (l8 (.ref s.heap.objs.size) (.ref d) (.ref s.heap.objs.size)) _ _ _;have o1:(s.heap.push lO).get? d=some o:=aM _ ho;have T1:ky { s with heap:=s.heap.push lO } (.ref d) "dict" := ⟨o,o1,hc⟩;unfold l8;refine aq (jg T1 ?_);rw[ao (by
  have:mw (.ref s.heap.objs.size) (.ref d)=false:=by simp[mw];exact λe=>au e (fX hlt)
  rw[this];decide)]
 have m1:(s.heap.push lO).DictAt (sQ prog w) d kvs ep:=hm.at' λo e=>aM _ e;refine aq (nE (knd:=sQ prog w) (kvs:=kvs) (ep:=ep) hd m1 ?_);let h3:=(s.heap.push lO).push { cls:=.type "dict_keyiterator", data:=.fields #[.ref d,.int 0 0,.int kvs.length 0,.int ep 0] };have T3:ky { s with heap:=h3 } (.ref d) "dict" := ⟨o,aM _ o1,hc⟩;have ez:(s.heap.push lO).objs.size=s.heap.objs.size+1:=dF _ _;have L3:h3.get? s.heap.objs.size=some lO:=aM _ (bF _ rfl);have I3:h3.IsKeyIter (s.heap.objs.size+1) d 0 kvs.length ep:=⟨_,by rw[<-ez];exact bF _ rfl,rfl,rfl⟩;have M3:h3.DictAt (sQ prog w) d kvs ep:=m1.at' λo e=>aM _ e;have K3:∀b o,s.heap.get? b=some o->h3.get? b=some o:=λb o e=>aM _ (aM _ e);show ai _ A.in1 (holding [.ref (s.heap.push lO).objs.size] (l9 (.ref d))>>=_) _ _ { s with heap:=h3 };rw[ez];refine aq (cM ?_);unfold l9;refine aq (ka T3 F.slot_dict_len.lookup ?_);generalize hid:("dict.__len__" : String)=id0;wp_delta;rw[show splitId id0=some ("dict", "__len__") from by subst hid;decide +kernel];subst hid;refine aq (wpAny_isInstance T3 sub_dict_dict ?_);dsimp only;rw[ao (by decide),aj (by decide +kernel)];refine aq (jg T3 ?_);refine aB ?_;rw[aj (by decide +kernel)];refine aq (wpAny_rule ?_);refine aq ?_;show ai _ A.in1 (updateSeq s.heap.objs.size (·.push .none)>>=λ_=>updateSeq s.heap.objs.size (·.pop)) _ _ _
 refine aq (kg L3 rfl ?_);have S2:=jO (c8 (·.push Value.none)) L3 rfl
 refine kg S2 rfl ?_;have S3:=jO (c8 (·.pop)) S2 rfl
 have oth:∀b o,b≠s.heap.objs.size->h3.get? b=some o->((h3.update s.heap.objs.size (c8 (·.push Value.none))).update s.heap.objs.size (c8 (·.pop))).get? b=some o:=
  λb o hb e=>(gA _ _ (c9 hb)).trans ((gA _ _ (c9 hb)).trans e)
 have hne:d≠s.heap.objs.size+1:=bb (df hlt);have hSf:s.heap.objs.size∉[s.heap.objs.size+1,d]:=by
  intro z;rcases aN.mp z with z|z
  ·exact au z (bb (eh _))
  ·exact au (aR.mp z) (fX hlt)
 have W:=(oG (prog:=prog) (w:=w) (knd:=sQ prog w) (A:=A.in1) (by simp[hh]) (s.heap.objs.size+1) d hne kvs ep).toS;refine aB ⟨fU F.plain_extend_loop _,codeAny_extend_loopS W (by rw[bR];omega) _ hSf _ kvs.length 0 _ _ _ rfl (cu _)
  ⟨I3.at λo e=>oth _ o (fX (eh _)) e,M3.at' λo e=>oth _ o (bb hlt) e⟩ S3 (ItemsOf.nil _) λs' acc' c' hm hS' hacc=>?_⟩
 show ai _ A (load s.heap.objs.size>>=_) _ _ s';refine aq (wpAny_load hS' ?_);obtain⟨h2,g2,d2,k2,o2⟩:=s';have eg:g2=s.gens:=hm.gens;have ed:d2=s.drawn:=hm.drawn;have eo:o2=s.os:=hm.os;subst eg ed eo;refine aB (hQ h2 k2 acc' (fq (aQ hS')) (λb o e=>?_) hacc);have hb:=aQ e;exact hm.heap b o (λz=>by
  rcases aN.mp z with z|z
  ·exact au z (bb hb)
  ·exact au (aR.mp z) (bb (df hb))) (oth b o (bb hb) (K3 b o e))
theorem ME:∀(vs:List ae) (ss:aF),vs.length=ss.length->(∀(j:Nat) (v:ae) (z:Str),vs[j]?=some v->ss[j]?=some z->∃t,v=.str z t)->fM vs ss
 |[],[],_,_=>.nil
 |v::vs,z::ss,h,k=>by obtain⟨t,rfl⟩:=k 0 v z rfl rfl;exact .cons z t (ME vs ss (hG h) λj=>k (j+1))
 |[],_::_,h,_=>by cases h
 |_::_,[],h,_=>by cases h
theorem J8{ss:aF}(hh:A.handled=none)(hd:(d==cN)=false)(ho:s.heap.get? d=some o)(hc:o.cls=.type "dict")(hm:s.heap.DictAt (sQ prog w) d kvs ep)(hn:kvs.length<64)(hk:kvs.map aG=ss.map Sum.inr)
  (hQ:∀p h2 k2 out e,s.heap.objs.size<=p->(∀b o,s.heap.get? b=some o->h2.get? b=some o)->fM out (xI ss)->h2.get? p=some (seqObj "list" out.toArray e)->Q (.ref p) { s with heap:=h2,toks:=k2 }):ai (model prog w) A (call (.builtin "sorted") [.ref d]) Q E s:=by
 refine mh kind_sorted plain_sorted entry_sorted (args_sorted1 _) ?_;unfold eK.«sorted»;refine aq (m:=checkCount "sorted" 1 1 _) (aB ?_);refine aq (IR (by simp[hh]) hd ho hc hm (by omega) λh2 k2 acc hz kk ia=>?_);have hl:acc.toList.length=ss.length:=by have:=aU bY hk;rw[ah,ah]at this;rw[eW,ia.1,this]
 have hS:fM acc.toList ss:=ME _ _ hl λj v z e1 e2=>by
  rw[jN]at e1;obtain⟨k,x,e3,e4⟩:=ia.2 j v e1;have e5:(kvs.map aG)[j]?=some k:=by rw[bB,e3];rfl
  rw[hk,bB,e2]at e5;cases e5;exact IC e4
 have h64:acc.toList.length<64:=by rw[eW,ia.1];exact hn
 refine aq (kA ?_);have hoL:(h2.push (seqObj "list" acc.toList.toArray 0)).get? h2.objs.size=some (seqObj "list" acc.toList.toArray 0):=bF _ rfl;show ai _ _ _ _ _ { s with heap:=h2.push (seqObj "list" acc.toList.toArray 0),toks:=k2 };refine aq (cM (iU oH ⟨_,hoL,rfl⟩ oa (list_sort_treeK strKind_oneLt hoL hS.keysOf (λv₁ v₂ rest e=>keyKind_strs (by rw[<-e];exact hS)) h64 λst' a1 a2=>⟨_,rfl,?_⟩) (oI _)));obtain⟨ss',b1,b2,b3⟩:=sorted_out_str hS a1 a2;rw[FJ b2 b3]at b1;obtain⟨e,he⟩:=sortedHeap_at (vs:=acc.toList) (out:=(arrOf st').map (·.2)) hoL
 refine aB ⟨_,rfl,hQ h2.objs.size _ k2 _ e hz (λb o z=>?_) b1 he⟩;have:=kk b o z;rw[sortedHeap_old (bb (aQ this)) (by rw[dF];exact df (aQ this))];exact aM _ this
end
section
variable{X:Cx}{G:Bg}{B:Bz}{k:Bool}{pins:cH}{σ:St}{H:Hp}{s:ag}
theorem IS(hc:X.calm=true):ux X (.builtin "sorted") (λxs H Q=>∃(a:Addr) (o:Obj) (kvs:List (Key×V)) (ss:aF),xs=[.ref a]/\H a=some (.frz o (.dK kvs))/\kvs.map aG=ss.map Sum.inr/\ss.length<64/\∀p,H p=none->Q (.ref p) (upd H p (.lst ((xI ss).map V.str)))):=by
 intro pins s σ H xs us Q I r h;obtain⟨a,o,kvs,ss,rfl,he,hk,h64,q⟩:=h;obtain⟨u,rfl,ru⟩:=vals1 r;cases ru;obtain⟨q0,_,y,vs,r,ob,es,ep,e1,e2,e3,e4⟩:=(show tY X.prog X.w H s.heap a (.frz o (.dK kvs)) from I.hok a _ he);rw[q0]at e1;cases e1;have hl:kvs.length=vs.length:=r.length;have hl2:=aU bY hk;rw[ah,ah]at hl2;have kv:∀{kvs:List (Key×V)} {vs:List (Key×ae)},KV kvs vs->vs.map aG=kvs.map aG:=λ{kvs vs} r=>by
  induction r with
  |nil=>rfl
  |cons h _ ih=>rw[az,az,ih,show _=_ from h.1]
 refine J8 (I.ok.hd hc) y q0 e2.1 ⟨o,es,q0,e2,e3,e4⟩ (by omega) ((kv r).trans hk) λp h2 k2 out e hp kk hs hg=>?_;refine⟨.ref p,_,I.laid (t':=k2) kk hp ?_,rfl,q _ (I.hok.fresh hp)⟩;refine⟨?_,out,e,Qt hs,hg⟩;rw[ah,show (xI ss).length=ss.length from(iN ss leS).length_eq,bR];omega
def DU:List Key->Option aF
 |[]=>some []
 |.inr x::ks=>(DU ks).map (x::·)
 |_=>none
theorem J9:∀{ks:List Key} {ss:aF},DU ks=some ss->ks=ss.map Sum.inr
 |[],ss,e=>by cases e;rfl
 |.inl _::_,ss,e=>by cases e
 |.inr x::ks,ss,e=>by
  unfold DU at e;cases e1:DU ks with
  |none=>rw[e1]at e;cases e
  |some l=>rw[e1]at e;cases e;rw[J9 e1];rfl
def Dv(f:FE):FA:=λρ=>match f ρ with
 |some (.dic ks ds,ρ')=>match DU ks with
  |some ss=>if ss.length<64 then some ((xI ss).map D.str,ρ')else none
  |none=>none
 |_=>none
theorem Ka(h:PE X e (tCB (λxs H Q=>∃(a:Addr) (o:Obj) (kvs:List (Key×V)) (ss:aF),xs=[.ref a]/\H a=some (.frz o (.dK kvs))/\kvs.map aG=ss.map Sum.inr/\ss.length<64/\∀p,H p=none->Q (.ref p) (upd H p (.lst ((xI ss).map V.str)))) (tFA G (rV f sI)))):PE X e (tFN G (Dv f)):=PE.weak h λσ H Q hh=>by
 obtain⟨F,ρ,H0,es,ρ',R,e,k⟩:=hh;unfold Dv at e;split at e
 ·rename_i ks ds ρ1 e1;cases e2:DU ks with
  |none=>simp only[e2]at e;cases e
  |some ss=>
   simp only[e2]at e;split at e
   ·rename_i h64;cases e;refine⟨F,ρ,H0,[.dic ks ds],_,R,by unfold rV;rw[e1];rfl,λys H1 H1' s R' rs=>?_⟩
    sleep 1
    unfold Rep at rv;obtain⟨a,o,xs,rfl,r1,r2,r3⟩:=rv;refine⟨a,o,_,ss,rfl,R'.sub _ _ r1,?_,h64,λp hp=>?_⟩
    ·rw[nV (kE r2)];exact J9 e2
    ·exact k p _ _ _ s (R'.newOwn hp _) sr (R'.h0none hp) (R'.bNone hp) (R'.apart hp) (BP _)
   ·cases e
 ·cases e
end
section
variable{X:Cx}{B:Bz}{k:Nat}{e:Expr}{f:FE}{p pos:Pos}
theorem Yo [C:Cz X B k][N:Nb B "sorted"](hs:S1 X e)(hg:Gz X "sorted")(ha:ZE X B e f):ZN X B (.Call (.Name "sorted" p) [e] [] pos) (Dv f):=⟨Ka (cbI hg (by decide) hs (IS C.c) kU (u7 ha.p v3 hs))⟩
end
def Qx(f:FE)(lo hi:Option Int):FE:=λρ=>match f ρ with
 |some (.tup ds,ρ1)=>if HT.sIx ds.length 0 lo=0/\HT.sIx ds.length ds.length hi=ds.length then none else some (.tup (cutD ds lo hi),ρ1)
 |_=>none
section
variable{X:Cx}{G:Bg}
theorem Ob{lo:Option Int}(h:PE X e (tSl (Vv G.K) (tF G f) (tO lo) (tO hi))):PE X e (tF G (Qx f lo hi)):=PE.weak h λσ H Q hh=>by
 obtain⟨F,ρ,H0,ds,ρ',R,e,k⟩:=hh;unfold Qx at e;split at e
 ·rename_i xs ρ1 e1;split at e
  ·cases e
  ·rename_i hn
   sleep 2
   obtain⟨a,ys,rfl,h1,h2⟩:=r;rw[sq h2]at hn;exact⟨a,ys,rfl,SqT.mono R'.sub h1,hn,λp hp=>k _ _ _ (s.trans (sG (R'.h0none hp) _)) (R'.newIm hp _) (zt (SqT.of sr) (sj.mono (sG (R'.h0none hp) _) _ _ (Fn h2)))⟩
 ·cases e
theorem sl_T(hK:X.K=G.K:=by rfl):SlR X (Vv G.K):=by rw[<-hK];exact Vw
end
section
variable{X:Cx}{B:Bz}{k:Nat}{e:Expr}{f:FE}{p pos:Pos}
theorem Yp{lo:Option Expr}[C:Cz X B k](he:ZE X B e f)(hl:ZK X lo l)(hh:ZK X hi h):ZE X B (.Subscript e (.Slice lo hi none p) pos) (Qx f l h):=⟨Ob (EY (sl_T C.K) he.p hl.p hh.p)⟩
end
section
variable{t:lq}{m n:Nat}
def rs(m i q:Nat):jc:=⟨i,kh m i - i,i,q,none⟩
end
section
variable{ow:Array (Option Nat)}
def lv(ow:Array (Option Nat)):List (Nat×Nat):=(bH 32).filterMap λj=>(ow.getD j none).map (j,·)
end
section
variable{X:Cx}{G:Bg}
theorem Qy(hh:tF G (uc g i a) σ H Q):Al (spL G g) [] E (Lo G i a) σ H Q:=by
 sleep 5
 unfold uc at e;rcases sW (f:=a) (ρ:=ρ)with e1|⟨ds,ρ1,e1⟩<;>simp only[e1]at e
 ·cases e
 ·cases e2:uq ρ1 i with
  |none=>simp only[e2]at e;cases e
  |some es=>
   simp only[e2]at e;cases e3:g es ds with
   |none=>simp only[e3]at e;cases e
   |some q=>obtain⟨d1,es'⟩:=q;simp only[e3]at e;cases e;refine⟨F,ρ,H0,ds,ρ1,es,R,e1,e2,λys b H1 H1' s R' rs sb=>?_⟩;obtain⟨s,es0,es1⟩:=vM e2;obtain⟨b',xs',t1,t2,t3,t4⟩:=(R'.sl i s es0).lst es1;rw[vz t1]at sb;cases sb;refine⟨b,ys,bz _,b,ys,xs',H1,es,ds,d,es',rfl,t2,t3,R'.sub,t4,rs,e3,λv zs H2 H2' u1 u2 u3 fr w0 w1 w2 w3=>?_⟩;refine k _ _ _ (sA.trans ‹sA H0 H1› u1) ?_ w3;unfold putAt;rw[es0];exact R'.call1 es0 es1 t1 u1 u2 u3 fr w0 w1 w2
end
end L4
namespace L4
open PySem PySem.Spec PySem.Calls PyProof.Rows PySem.W L2 L3
noncomputable abbrev cS(s:Str):FE:=cC (.str s)
noncomputable abbrev a1(e:FE):FA:=rV e sI
section
variable{X:Cx}{G:Bg}{C:Addr}{x:Str}{p pos:Pos}{e:Expr}{c:Nat}
structure Mk0(K:ay)(C:Addr):Prop where
 makes:makesIn K C=true
 init:findIn K (.ref C) "__init__" = some (some (.builtin "object.__init__"))
 kp:keepIn K (.ref C)=true
theorem Oc(M:Mk0 X.K C)(hg:Gl X x)(hm:X.mg x=some (.ref C))(hdb:(x==("__debug__" : Str))=false):PE X (.Call (.Name x p) [] [] pos) (λσ H Q=>∀y dx,H y=none->H dx=none->dx≠y->Q (.ref y) (upd (upd H dx (.own y)) y (.ins C dx []))):=by
 intro pins s σ H Q I h;refine dZ (B2 I hg hm ?_ hdb);refine ku I.kIn M.kp ?_;have hq:=h (s.heap.objs.size+1) s.heap.objs.size (I.hok.fresh (fw _)) (I.hok.fresh (aI _)) (bb (eh _));have I2:=Inv.made (C:=C) I;have Y:=lb (M:=model X.prog X.w) I.kIn M.makes;refine jk (Nk I.kIn M.makes M.init (λself=>Looks.of_pure (oi_bind self)) ?_);have e2:((s.heap.push emptyDict).push (instObj C s.heap.objs.size)).get? (s.heap.objs.size+1)=some (instObj C s.heap.objs.size):=by rw[<-dF s.heap emptyDict];exact bF _ rfl
 have t2:Looks (model X.prog X.w) ((s.heap.push emptyDict).push (instObj C s.heap.objs.size)) (isInstance (.ref (s.heap.objs.size+1)) (.type "object")) true:=
  ((pG e2).andThen .now:Looks (model X.prog X.w) _ (typeOf (.ref (s.heap.objs.size+1))) (.ref C)).andThen (Y.top.keeps λb o e=>aM _ (aM _ e))
 refine mL oi_plain entry_oi (check_slot oi_kind oi_split t2 (oi_args _) ?_);rw[oi_run];exact aB (And.intro rfl ⟨V.ref (s.heap.objs.size+1),_,I2,rfl,hq⟩)
def Yq(c:Nat):FE:=λρ=>some (.obj c [] [],ρ)
theorem Od(h:PE X e (λσ H Q=>∀y dx,H y=none->H dx=none->dx≠y->Q (.ref y) (upd (upd H dx (.own y)) y (.ins (G.ca c) dx [])))):PE X e (tF G (Yq c)):=PE.weak h λσ H Q hh=>by
 sleep 5
 cases e;intro x dx hx hdx ne;have hx2:(upd H dx (.own x)) x=none:=by rw[su (λz=>ne z.symm)];exact hx
 have sx:sA H (upd (upd H dx (.own x)) x (.ins (G.ca c) dx [])):=(sG hdx _).trans (sG hx2 _);have R2:=R.grow sx (λ_ _ e=>e) (R.sub.trans sx) (λb o e=>.inl e);have h0:=R.h0none hx;have R3:=R2.freeze sr h0 (R.bNone hx) (λi t ei to z=>R.apart hx i t ei to z);refine k _ _ _ (sG h0 _) R3 ?_;unfold Rep;exact⟨x,dx,[],rfl,sr,rfl,tf⟩
end
section
variable{X:Cx}{B:Bz}{k:Nat}{p pos:Pos}{x:Str}{c:Nat}
class K0f(B:Bz)(x:Str)(c:Nat):Prop where p:Mk0 B.G.K (B.G.ca c)/\B.mg x=some (.ref (B.G.ca c))
theorem Yr [C:Cz X B k][Q:K0f B x c](hg:Gz X x)(hd:(x==("__debug__" : Str))=false):ZE X B (.Call (.Name x p) [] [] pos) (Yq c):=⟨Od (Oc (by rw[C.K];exact Q.p.1) hg (by rw[C.mg];exact Q.p.2) hd)⟩
end
end L4
namespace L4
open PySem PySem.Spec PyProof.Rows L2 L3
def spJ(G:Bg)(j:Nat)(g:aT->aT->Option (D×aT)):Sp:=λvs H Q E=>∃(a:Addr) (us:bI),vs=us.take j++.ref a::us.drop j/\spM G g (.ref a::us) H Q E
def stJ(j n:Nat)(es ds:aT):bg:=(ds.take j).map Sl.im++.pm es::((ds.drop j).map Sl.im++eE (n - ds.length - 1) .un)
def fnJ(j np n:Nat)(f:FS):aT->aT->Option (D×aT):=λes ds=>if ds.length=np then match f (stJ j n es ds)with
 |some (.rt d ρ)=>match JZ j ρ with
  |some es'=>some (d,es')
  |none=>none
 |_=>none
 else none
theorem Kb(h:fnJ j np n f es ds=some (d,es')):ds.length=np/\∃ρ,f (stJ j n es ds)=some (.rt d ρ)/\ρ[j]?=some (.pm es'):=by
 unfold fnJ at h;split at h
 ·rename_i hl;refine⟨hl,?_⟩;split at h
  ·rename_i x ρ e;cases e2:JZ j ρ with
   |none=>simp only[e2]at h;cases h
   |some q=>simp only[e2]at h;cases h;exact⟨ρ,e,Do e2⟩
  ·cases h
 ·cases h
theorem IT{ds:aT}(hj:j<=ds.length)(h:(stJ j n es ds)[i]?=some t):(i=j/\t=.pm es)\/t=.un\/∃(m:Nat) (d:D),ds[m]?=some d/\t=.im d/\∀(us:bI) (v w:V),us.length=ds.length->us[m]?=some v->(us.take j++w::us.drop j)[i]?=some v:=by
 unfold stJ at h;have lt:(ds.take j).length=j:=by rw[bw];omega
 by_cases hi:i<j
 ·rw[cW (by rw[ah,lt];exact hi),bB,m8,aj hi,aP (by omega)]at h;cases h;refine .inr (.inr ⟨i,_,aP (by omega),rfl,λus v w hl hv=>?_⟩);rw[cW (by rw[bw];omega),m8,aj hi];exact hv
 ·rw[cI (by rw[ah,lt];omega),ah,lt]at h;cases q:i - j with
  |zero=>rw[q]at h;cases h;exact .inl ⟨by omega,rfl⟩
  |succ m=>
   rw[q,iJ]at h;by_cases hm:m<(ds.drop j).length
   ·have hm':j+m<ds.length:=by rw[cg]at hm;omega
    rw[cW (by rw[ah];exact hm),bB,de,aP hm']at h;cases h;refine .inr (.inr ⟨j+m,_,aP hm',rfl,λus v w hl hv=>?_⟩);rw[cI (by rw[bw];omega),bw,eD (by omega),q,iJ,de];exact hv
   ·rw[cI (by rw[ah];omega),fL]at h;split at h
    ·cases h;exact .inr (.inl rfl)
    ·cases h
section
variable{X:Cx}{G:Bg}
theorem TQ{N:aF}{ds:aT}(hj:j<=ds.length)(ha:H a=some (.lst xs))(h0:H0 a=none)(s:sA H0 H)(r1:sj G H0 es xs)(r:sj G H0 ds us)(hN:us.length+1<=N.length):sL G ⟨H0,H,[a]⟩ (L2.start N (us.take j++.ref a::us.drop j)) (stJ j N.length es ds) H0 H:={
  sub:=s
  g0:=sA.refl _
  keep:=λb o e _=>e
  fr:=λb o e=>.inl e
  am:=λb hb=>by rw[aR]at hb;subst hb;exact⟨_,ha⟩
  len:=by unfold L2.start stJ;simp only[aC,ah,cp,aH,c6,bw,cg];have:=sq r;omega
  sl:=λi t e=>by
   have hl:=sq r;rcases IT hj e with ⟨rfl,rfl⟩|rfl|⟨m,d,e1,rfl,e4⟩
   ·exact⟨a,xs,vL (by rw[cI (by rw[bw];omega),bw,eD (by omega),jh];rfl),ha,h0,aR.mpr rfl,r1⟩
   ·trivial
   ·obtain⟨v,e2,e3⟩:=uF r e1;exact⟨v,vL (e4 us v _ hl.symm e2),e3⟩
  ap:=λi k t u b hij ei ej ht hu=>by
   rcases IT hj ei with ⟨rfl,rfl⟩|rfl|⟨_,_,_,rfl,_⟩
   ·rcases IT hj ej with ⟨rfl,rfl⟩|rfl|⟨_,_,_,rfl,_⟩
    ·exact au rfl hij
    ·cases hu
    ·cases hu
   ·cases ht
   ·cases ht }
theorem TR{N:aF}(hj:j<=np)(hN:np+1<=N.length)(h:spJ G j (fnJ j np N.length f) vs H Q E):tFS G f { nx:=λ_ H'=>Q .non H',rt:=Q } (L2.start N vs) H:=by obtain⟨a,us,rfl,b,us',xs,H0,es,ds,d,es',e0,ha,h0,s,r1,r,e,k⟩:=h;cases e0;obtain⟨hl,ρ,e1,e2⟩:=Kb e;have R:=TQ (N:=N) (j:=j) (by omega) ha h0 s r1 r (by rw[<-sq r,hl];exact hN);refine⟨_,_,H0,_,R,e1,λv σ' H0' H' s' R' rv=>?_,λ_=>rfl⟩;obtain⟨a',ys,q1,q2,q3,q4,q5⟩:=R'.sl j _ e2;have ea:a'=a:=aR.mp q4;subst ea;exact k _ ys _ _ s' R'.sub (λb o e n=>R'.keep b o e (λz=>n (aR.mp z))) R'.fr q3 q2 q5 rv
def Oe(G:Bg)(j i:Nat)(a:FA):TA:=λσ H Q=>∃F ρ H0 ds ρ' es,sL G F σ ρ H0 H/\a ρ=some (ds,ρ')/\uq ρ' i=some es/\∀xs b H0' H',sA H0 H0'->sL G F σ ρ' H0' H'->sj G H0' ds xs->σ[i]?=some (some (.ref b))->Q (xs.take j++.ref b::xs.drop j) H'
theorem Qz(hv:PE X e (yL i))(hc:PE X e' (tF G (cC d)))(hs:aA [e,e'] X.env=(false,eval e X.env)::aA [e'] X.env)(hs':aA [e'] X.env=[(false,eval e' X.env)]):PA X [e,e'] (Oe G 0 i (rV (cC d) sI)):=PA.weak (uD hv (uD hc yc hs') hs) λσ H Q hh=>by obtain⟨F,ρ,H0,ds,ρ',es,R,e,el,k⟩:=hh;cases e;obtain⟨b,xs,s1,_⟩:=uJ R el;exact⟨.ref b,s1,F,ρ,H0,d,ρ,R,rfl,λv H1 H1' s R' rv=>k [v] b _ _ s R' (sX rv tf) s1⟩
theorem Of(ha:PE X e (tF G f))(hr:PA X es (Oe G j i g))(hs:aA (e::es) X.env=(false,eval e X.env)::aA es X.env:=by rfl):PA X (e::es) (Oe G (j+1) i (rV f g)):=PA.weak (uD ha hr hs) λσ H Q hh=>by obtain⟨F,ρ,H0,d,ρ',es,R,e,el,k⟩:=hh;obtain⟨x,r,ρ1,e1,e2,rfl⟩:=zv e;exact⟨F,ρ,H0,x,ρ1,R,e1,λv H1 H1' s R' rv=>⟨F,ρ1,H1,r,ρ',es,R',e2,el,λxs b H2 H2' s2 R2 rs sb=>k (v::xs) _ _ _ (s.trans s2) R2 (sX (Rep.mono s2 _ _ rv) rs) sb⟩⟩
theorem QA(hh:tF G (uc g i a) σ H Q):Al (spJ G j g) [] E (Oe G j i a) σ H Q:=by obtain⟨F,ρ,H0,ds,ρ',es,R,e,el,k⟩:=Qy (E:=E) hh;refine⟨F,ρ,H0,ds,ρ',es,R,e,el,λxs b H1 H1' s R' rs sb=>?_⟩;obtain⟨a',us,e1,q⟩:=k xs b H1 H1' s R' rs sb;rw[bz]at e1;obtain⟨rfl,e2⟩:=List.append_inj' e1 rfl;cases e2;exact⟨b,xs,bz _,q⟩
theorem TU(D:y8 X.prog X.w X.K X.mg X.base k x ps (spJ G j g))(hr:uy k X.A)(ha:PA X (e::es) (Oe G j i a))(hg:Gl X x)(hdb:(x==("__debug__" : Str))=false)(he:aA (e::es) X.env=(false,eval e X.env)::aA es X.env)(hpl:(bD pos (aA es X.env)).any (·.1)=false):
  PE X (.Call (.Name x p) (e::es) [] pos) (tF G (uc g i a)):=by
 obtain⟨f,fd,h1,h2,h3,h4⟩:=D;exact PE.weak (B3 (p:=p) (pos:=pos) h4 hr hg h1 h2 h3 .nil DL ha hdb he hpl) λσ H Q hh=>QA hh
end
section
variable{P:aV}{w:aL}{K:ay}{mg:Str->Option ae}{base:Heap}{x qual:Str}{st:Stmt}{f T:Addr}{fd:cb}{N ps:aF}{k:Nat}{G:Bg}
theorem aap(hg:g=fnJ j np n b)(hj:j<=np)(hp:ps.length=np+1)(hN:N.length=n)(F:Fun K x qual st f fd)(S:uu N ps (sM st))(body:∀(cdv:ae) (A:aS) (outer:List Env) (s:ag) (H:Hp) (E:XK),uy k (A.deeper (envOfC qual (sM st) s.heap.objs.size f cdv))->PSs (Bs P w K mg base N qual st f cdv A outer s H E) (tG st) (tFS G b)):
  wx P w K mg base CX0 (k+1) f fd ps (spJ G j g):=by
 subst hg hN;refine F.ok S (λvs H Q E h=>?_) λcdv A outer s H vs Q E hr h=>⟨_,body cdv A outer s H E hr,TR hj (by have:=aU bY S.pre;rw[bw]at this;omega) h⟩;obtain⟨a,us,rfl,h⟩:=h;have:=Pi (λ_ _ d h=>(Kb (d:=d.1) (es':=d.2) h).1) _ _ _ _ h;simp only[aC,aH,bw,cg]at this ⊢;omega
end
section
variable{X:Cx}{B:Bz}{k j i j' np n:Nat}{x y:Str}{e e':Expr}{es:List Expr}{a:FA}{f:FE}{d:D}{p pos:Pos}{g:aT->aT->Option (D×aT)}
structure ZJ(X:Cx)(B:Bz)(e:List Expr)(j i:Nat)(f:FA):Prop where p:PA X e (Oe B.G j i f)
theorem Ys(h:sees X i x=true)(hc:ZE X B e' (cC d))(hs:Sz X (.Name x p) [e'])(hs':S1 X e'):ZJ X B [.Name x p,e'] 0 i (rV (cC d) sI):=⟨Qz (pvI h) hc.p hs hs'⟩
theorem Yt(ha:ZE X B e f)(hr:ZJ X B es j i a)(hs:Sz X e es):ZJ X B (e::es) (j+1) i (rV f a):=⟨Of ha.p hr.p hs⟩
class Dj(B:Bz)(j':outParam Nat)(x:Str)(j:outParam Nat)(g:aT->aT->Option (D×aT)):Prop where p:Df B j' x (spJ B.G j g)
theorem Yu [C:Cz X B k][Q:Dj B j' x j g](hg:Gz X x)(hd:Dz x)(hs:Sz X e es)(hl:Lz X pos es)(ha:ZJ X B (e::es) j i a)(hj:dw j' k=true):ZE X B (.Call (.Name x p) (e::es) [] pos) (uc g i a):=by obtain⟨ps,q⟩:=dz hg hd (X:=X) (Q:=Q.p);exact⟨TU q (C.r.mono (dr.mp hj)) ha.p hg hd hs hl⟩
end
section
variable{B:Bz}[Y:Yb B]{x:Str}{st s0:Stmt}{l:List Stmt}{j np n k:Nat}{b:FS}
theorem gJ5(hg:g=fnJ j np n b)(hj:j<=np)(q:GD B.G.K x st)(hl:tG st=s0::l)(body:Bdz B (nmO st) x st (s0::l) k b)(S:okO (nmO st) (psO st) st (np+1) n=true:=by kernel_rfl)(bd:Bds x x st (psO st):=by (repeat intro _);rfl):Df B (k+1) x (spJ B.G j g):=
 ⟨_,gD Y.y q bd λf fd F=>aap hg hj (okk S).2.1 (okk S).2.2 F (okk S).1 (body.ok hl f)⟩
end
section
variable{X:Cx}{B:Bz}{k j i m:Nat}{x:Str}{e e':Expr}{es:List Expr}{d:D}{p pos:Pos}{g:D->D->Option D}
theorem aaq:ZB X B l NR:=⟨λpins s σ H D I h=>by
 obtain⟨F,ρ,H0,o,R,e,_⟩:=h;cases e⟩
theorem aar(h:c2 g (cV m) (cC d) ρ=some (z,ρ')):ρ'=ρ:=by
 unfold c2 cV at h;split at h
 ·rename_i e;split at e
  ·cases e;unfold cC at h;simp only at h;split at h
   ·cases h;rfl
   ·cases h
  ·cases e
 ·cases h
theorem Yv(h:sees X i x=true)(hc:ZE X B e' (c2 g (cV m) (cC d)))(hs:Sz X (.Name x p) [e'])(hs':S1 X e'):ZJ X B [.Name x p,e'] 0 i (rV (c2 g (cV m) (cC d)) sI):=⟨PA.weak (uD (pvI h) (uD hc.p yc hs') hs) λσ H Q hh=>by
 obtain⟨F,ρ,H0,ds,ρ',es,R,e,el,k⟩:=hh;obtain⟨z,r,ρ1,e1,e2,rfl⟩:=zv e;cases e2;have q:=aar e1;subst q;obtain⟨b,xs,s1,_⟩:=uJ R el;exact⟨.ref b,s1,F,_,H0,z,_,R,e1,λv H1 H1' s R' rv=>k [v] b _ _ s R' (sX rv tf) s1⟩⟩
end
theorem zx.mono(M:zx G P w mg base j m c h)(hk:dw j k=true):zx G P w mg base k m c h:=by obtain⟨f,fd,ps,a,b,c,F⟩:=M;exact⟨f,fd,ps,a,b,c,F.mono (dr.mp hk)⟩
mutual
def FL:D->Bool
 |.non=>true
 |.bl _=>true
 |.int _=>true
 |.str _=>true
 |.tup ds=>FM ds
 |.lst ds=>FM ds
 |_=>false
def FM:aT->Bool
 |[]=>true
 |d::ds=>FL d&&FM ds
end
mutual
theorem Rep.but(e:∀b o,H b=some o->(∀u kvs,o≠HO.frz u (.dK kvs))->H1 b=some o):∀(d:D) (v:V),FL d=true->Rep G H d v->Rep G H1 d v
 |.non,v,_,h=>by unfold Rep at h ⊢;exact h
 |.bl b,v,_,h=>by unfold Rep at h ⊢;exact h
 |.int i,v,_,h=>by unfold Rep at h ⊢;exact h
 |.str x,v,_,h=>by unfold Rep at h ⊢;exact h
 |.tup ds,v,n,h=>by
  unfold Rep at h ⊢;unfold FL at n;obtain⟨a,xs,rfl,h1,h2⟩:=h;refine⟨a,xs,rfl,?_,sj.but e ds xs n h2⟩;rcases h1 with (h|⟨o,h⟩)|h
  ·exact .inl (.inl (e _ _ h λ_ _ z=>nomatch z))
  ·exact .inl (.inr ⟨o,e _ _ h λ_ _ z=>nomatch z⟩)
  ·exact .inr h
 |.lst ds,v,n,h=>by unfold Rep at h ⊢;unfold FL at n;obtain⟨a,xs,rfl,h1,h2⟩:=h;exact⟨a,xs,rfl,e _ _ h1 (λ_ _ z=>nomatch z),sj.but e ds xs n h2⟩
 |.fzl ds,v,n,h=>by unfold FL at n;cases n
 |.obj c ns ds,v,n,h=>by unfold FL at n;cases n
 |.dic ks ds,v,n,h=>by unfold FL at n;cases n
theorem sj.but(e:∀b o,H b=some o->(∀u kvs,o≠HO.frz u (.dK kvs))->H1 b=some o):∀(ds:aT) (xs:bI),FM ds=true->sj G H ds xs->sj G H1 ds xs
 |[],xs,_,h=>by unfold sj at h ⊢;exact h
 |d::ds,xs,n,h=>by unfold sj at h ⊢;unfold FM at n;rw[bq]at n;obtain⟨v,r,rfl,h1,h2⟩:=h;exact⟨v,r,rfl,Rep.but e d v n.1 h1,sj.but e ds r n.2 h2⟩
end
end L4
namespace K22x
open PySem L2 L3 L4
abbrev D:=L4.D
def top(i:Nat):Stmt:=PySem.Challenge.pw_tellworld_k22_tests_in_tests.main.body.getD i (.Pass ⟨0,0,0,0⟩)
def xf:Nat->Bool:=λc=>c==14
def Kc:Nat->Bool:=λc=>c==2
def Hu:Nat->Bool:=λc=>c==9
def AB:Nat->Bool:=λc=>c==2
def Bu:Nat->Bool:=λc=>c==14
def z7:Nat->Bool:=λc=>c==14
def AC:Nat->Bool:=λc=>c==14
def tT:Nat->Bool:=λc=>c==0||c==7
def yf:Nat->Bool:=λc=>c==1
def sZ:Nat->Bool:=λc=>c==0||c==1||c==2
def MF:Nat->Bool:=λc=>c==10
def Hv:Nat->Bool:=λc=>c==10
def BR:Nat->Bool:=λc=>c==2
def Hw:Nat->Bool:=λc=>c==3||c==11
def xg:Nat->Bool:=λc=>c==14
def zb:Nat->Bool:=λc=>c==14
def uA:Nat->Bool:=λc=>c==0||c==1
def Ke:Nat->Bool:=λc=>c==3||c==4||c==5||c==6||c==7||c==11||c==12
def yg:Nat->Bool:=λc=>c==14
def Dw:Nat->Bool:=λc=>c==6||c==12
def Kg:Nat->Bool:=λc=>c==13
def yE:Nat->Bool:=λc=>c==14
def Kh:Nat->Bool:=λc=>c==8
def vd:Nat->Bool:=λc=>c==0
def xi:Nat->Bool:=λc=>c==14
abbrev QB:Ty->Option Bool:=Hr 16 1
abbrev MG:Ty->Option Bool:=Hr 16 0
def AD:L4.D:=(D.int 8)
def AE:L4.D:=(D.int 12)
def FN:L4.D:=(D.tup [(D.str "it"),(D.str "other"),(D.str "here"),(D.str "the"),(D.str "a"),(D.str "undo"),(D.str "restart")])
def FP:L4.D:=(D.tup [(D.str "the"),(D.str "a")])
def IU:L4.D:=(D.tup [(D.str "room"),(D.str "plain"),(D.str "fixed"),(D.str "box"),(D.str "lamp"),(D.str "you")])
def yF:L4.D:=(D.tup [(D.str "room"),(D.str "box"),(D.str "you")])
def yG:L4.D:=(D.tup [(D.str "box"),(D.str "lamp")])
def Bv:L4.D:=(D.tup [(D.str "room"),(D.str "you")])
def Cq:L4.D:=(D.int 5)
def Bw:L4.D:=(D.int 7)
def xM:L4.D:=(D.int 4)
def AF:L4.D:=(D.int 3)
def DV:L4.D:=(D.int 10)
def Cr:L4.D:=(D.int 6)
def zI:L4.D:=(D.int 4)
def yh:L4.D:=(D.tup [(D.str "the"),(D.str "a"),(D.str "undo"),(D.str "restart")])
def Cs:L4.D:=(D.int 20)
abbrev aa:=(cV 0)
abbrev af:=(cV 1)
abbrev aD:=(cC (.int 1))
def yi:FS:=(sy (uf (c1 (xt (vq "str")) aa) (uf (v8 yM yM aD (c1 uw aa) af) (c1 yy (cL (sR 1 [] (iS aa) (gN 0) ua (v8 Po Po (cS "a") aa (cS "z"))))))))
def wa:=fnD 2 2 yi
def Hy:FS:=(sy (uf (r9 wa (rV aa (a1 (cC AD)))) (c2 (dIn true) aa (cC FN))))
def Bb:=fnD 1 1 Hy
def Hz:FS:=(sy (uf (r9 wa (rV aa (a1 (cC AE)))) (c2 (dIn true) aa (cC FP))))
def we:=fnD 1 1 Hz
def DW:FS:=(sy (uf (c1 (xt (vq "str")) aa) (c2 (dIn false) aa af)))
def tZ:=fnD 2 2 DW
def FQ:FS:=(sy (uf (c1 (xt (vq "int")) aa) (Dd (c1 (xt (vq "bool")) aa))))
def BS:=fnD 1 1 FQ
def z8:FS:=(sy (uf (c1 (xt (vq "list")) aa) (c2 yM (c1 uw aa) af)))
def uB:=fnD 2 2 z8
def FR:FS:=(sy (cIf (cT (c1 (xt (vq "list")) aa)) (cL (Ar aa)) aa))
def BU:=fnD 1 1 FR
abbrev ar:=(cV 2)
abbrev av:=(cV 3)
abbrev aw:=(cV 4)
def Ct:FS:=(r6 (tI 0 0 "name" af)
 (r6 (tI 0 0 "words" ar)
 (r6 (tI 0 0 "kind" av)
 (tI 0 0 "start" aw))))
def Cu:=fnI 0 4 5 Ct
def DX:FS:=(r6 (tI 1 0 "name" af)
 (r6 (tI 1 0 "start" ar)
 (tI 1 0 "most" av)))
def DY:=fnI 1 3 4 DX
abbrev bt:=(cC D.non)
def AG:FS:=(r6 (tI 2 0 "name" af)
 (r6 (tI 2 0 "others" (cIf (cT (c2 BJ ar bt)) (tL sI) ar))
 (r6 (tI 2 0 "form" av)
 (tI 2 0 "joining" aw))))
def vC:=fnI 2 4 5 AG
def HA:FS:=(r6 (tI 3 0 "term" af)
 (tI 3 0 "place" ar))
def Bc:=fnI 3 2 3 HA
def FU:FS:=(tI 4 0 "term" af)
def zJ:=fnI 4 1 2 FU
def DZ:FS:=(tI 5 0 "term" af)
def D1:=fnI 5 1 2 DZ
def Bx:FS:=(r6 (tI 6 0 "term" af)
 (tI 6 0 "value" ar))
def uk:=fnI 6 2 3 Bx
def D2:FS:=(r6 (tI 7 0 "term" af)
 (tI 7 0 "kind" ar))
def uU:=fnI 7 2 3 D2
def D3:FS:=(tI 8 0 "word" af)
def AH:=fnI 8 1 2 D3
def FV:FS:=(tI 9 0 "inner" af)
def uY:=fnI 9 1 2 FV
def D4:FS:=(r6 (tI 10 0 "one" af)
 (tI 10 0 "other" ar))
def D5:=fnI 10 2 3 D4
def D6:FS:=(r6 (tI 11 0 "term" af)
 (tI 11 0 "place" ar))
def xw:=fnI 11 2 3 D6
def FW:FS:=(r6 (tI 12 0 "term" af)
 (tI 12 0 "value" ar))
def yj:=fnI 12 2 3 FW
abbrev aE:=(cV 5)
abbrev dW:=(a1 ar)
abbrev iw:=(a1 av)
def D7:FS:=(r6 (tI 13 0 "verb" af)
 (r6 (tI 13 0 "tests" (r9 BU dW))
 (r6 (tI 13 0 "deeds" (r9 BU iw))
 (r6 (tI 13 0 "text" aw)
 (tI 13 0 "refuses" aE)))))
def AI:=fnI 13 5 6 D7
def zc:FS:=(sy (c2 (dIn false) (c1 (sU tT "kind") aa) (cC yF)))
def zd:=fnD 1 1 zc
def uL:Nat->Option (List D->Option D):=λc=>match c with
 |0=>some zd
 |_=>none
def ze:FS:=(sy (c2 (dIn false) (c1 (sU tT "kind") aa) (cC yG)))
def zf:=fnD 1 1 ze
def uM:Nat->Option (List D->Option D):=λc=>match c with
 |0=>some zf
 |_=>none
def yk:FS:=(sy (c2 (dIn true) (c1 (sU tT "kind") aa) (cC Bv)))
def ym:=fnD 1 1 yk
def uN:Nat->Option (List D->Option D):=λc=>match c with
 |0=>some ym
 |_=>none
def z9:FS:=(sIf (wc (cT aa)) NR sF)
def sC:=fnD 2 2 z9
def FX:FS:=(sy (c1 uw (cL (sR 1 [1] (iL aa) (gN 0) (cT (c2 (dEq false) (c1 (sU tT "kind") aa) af)) aa))))
def zK:=fnD 2 2 FX
def Cv:FS:=(uI (sR 1 [] (iL aa) (gN 0) (cT (tS uN "is_plainly" aa sI)) aa))
def vR:=fnN 1 1 Cv
abbrev aW:=(cC (.int 0))
abbrev cv:=(cC (.bl false))
def Dx:FS:=(r6 (sIf (xn (wc (cT (c1 (xt QB) aa))) (xn (wc (cT (r9 BS (a1 (c1 (sU uA "start") aa))))) (wc (cT (r9 BS (a1 (c1 (sU yf "most") aa))))))) (sy cv) sF)
 (sy (uf (v8 yM yM aD (c1 (sU yf "most") aa) (cC AF)) (v8 yM yM aW (c1 (sU uA "start") aa) (c1 (sU yf "most") aa)))))
def Dy:=fnD 1 1 Dx
abbrev cx:=(cS "you")
abbrev dc:=(cS "room")
abbrev bN:=(a1 aa)
def yn:FS:=(r6 (sO 1 (uf (c1 (xt (vq "list")) aa) (c1 yy (cL (sR 1 [] (iL aa) (gN 0) ua (c1 (xt MG) aa))))))
 (r6 (sY (r9 sC (rV af (a1 (cS "things are a list of things")))))
 (r6 (sY (r9 sC (rV (c1 yy (cL (sR 1 [] (iL aa) (gN 0) ua (r9 tZ (rV (c1 (sU tT "kind") aa) (a1 (cC IU))))))) (a1 (cS "a thing is of no kind")))))
 (r6 (sY (r9 sC (rV (v8 yM yM aD (r9 zK (rV aa (a1 dc))) (cC Cq)) (a1 (cS "a world has 1 to 5 rooms")))))
 (r6 (sY (r9 sC (rV (c2 (dEq false) (r9 zK (rV aa (a1 cx))) aD) (a1 (cS "a world has just one you")))))
 (sY (r9 sC (rV (c2 yM (c1 uw (cL (tp vR bN))) (cC Bw)) (a1 (cS "a world has at most 7 things beside rooms and you"))))))))))
def yp:=fnD 1 2 yn
def yN:FS:=(r6 (sO 1 (uf (r9 uB (rV aa (a1 (cC xM)))) (c1 yy (cL (sR 1 [] (iL aa) (gN 0) ua (r9 Dy bN))))))
 (sY (r9 sC (rV af (a1 (cS "marks are a list of at most 4 marks, each from 0 to at most 3"))))))
def yO:=fnD 1 2 yN
def Cw:FS:=(sy (c2 (dEq false) (c1 IB aa) (c1 uw aa)))
def ui:=fnD 1 1 Cw
def yP:FS:=(r6 (sO 2 (cL (uW (cL (sR 1 [] (iL aa) (gN 0) ua (c1 (sU sZ "name") aa))) (cL (sR 1 [] (iL af) (gN 0) ua (c1 (sU sZ "name") aa))))))
 (r6 (sY (r9 sC (rV (c1 yy (cL (sR 1 [] (iL ar) (gN 0) ua (r9 Bb bN)))) (a1 (cS "a name is no name")))))
 (sY (r9 sC (rV (r9 ui dW) (a1 (cS "two things or marks have one name")))))))
def yQ:=fnD 2 3 yP
def Cy:FS:=(uI (uW (cL (sR 1 [] (iL aa) (gN 0) (cT (tS uM "has_mark" aa sI)) (c1 (sU sZ "name") aa))) (cL (sR 1 [] (iL af) (gN 0) ua (c1 (sU sZ "name") aa)))))
def xN:=fnN 2 2 Cy
def BV:FS:=(r6 (sIf (cT (c2 (dEq false) (c1 (sU tT "kind") af) dc)) (sy (c2 BJ (c1 (sU uA "start") af) bt)) sF)
 (r6 (sIf (cT (c2 (dEq false) (c1 (sU tT "kind") af) cx)) (sy (r9 tZ (rV (c1 (sU uA "start") af) (a1 (cL (sR 1 [] (iL aa) (gN 0) (cT (c2 (dEq false) (c1 (sU tT "kind") aa) dc)) (c1 (sU sZ "name") aa))))))) sF)
 (sy (r9 tZ (rV (c1 (sU uA "start") af) (a1 (cL (sR 1 [] (iL aa) (gN 0) (cT (tS uL "can_hold" aa sI)) (c1 (sU sZ "name") aa)))))))))
def BW:=fnD 2 2 BV
abbrev cF:=(cC (.bl true))
def Aa:FS:=(r6 (sO 2 (c2 tq aa af))
 (r6 (vY (iR1 (c1 uw aa)) (gN 3) (r6 (sIf (cT (c2 BJ ar bt)) (sy cF) sF)
 (sO 2 (c2 tq aa ar))))
 (sy (c2 BJ ar bt))))
def xD:=fnD 2 4 Aa
abbrev jK:=(rV af bN)
def yq:FS:=(r6 (sY (r9 sC (rV (c1 yy (cL (sR 1 [0] (iL aa) (gN 0) ua (r9 BW jK)))) (a1 (cS "a start is none")))))
 (r6 (Cg 1)
 (r6 (vY (iL aa) (gN 2) (tW 1 (c1 (sU sZ "name") ar) (c1 (sU uA "start") ar)))
 (sY (r9 sC (rV (c1 yy (cL (sR 1 [1] (iD (cFz 1)) (gN 0) ua (r9 xD jK)))) (a1 (cS "a thing starts within itself"))))))))
def yt:=fnD 1 3 yq
def AJ:FS:=(r6 (sIf (xn (wc (cT (c1 (xt (vq "tuple")) aa))) (wc (cT (v8 yM yM aD (c1 uw aa) (cC zI))))) (sy cv) sF)
 (sy (uf (c1 yy (cL (sR 1 [] (iT aa) (gN 0) ua (r9 we bN)))) (r9 ui bN))))
def AK:=fnD 1 1 AJ
def HB:FS:=(sy (c1 yy (cL (sR 1 [0] (iT af) (gN 0) ua (c2 (dIn false) aa af)))))
def Bd:=fnD 2 2 HB
def xE:FS:=(r6 (sO 2 (cL (sR 1 [1] (iL aa) (gN 0) (cT (c2 (dEq true) (c1 (sU sZ "name") aa) (c1 (sU sZ "name") af))) aa)))
 (sy (Dd (c1 EA (cL (sR 1 [1] (iL ar) (gN 0) ua (r9 Bd (rV (c1 (sU vd "words") aa) (a1 (c1 (sU vd "words") af))))))))))
def xF:=fnD 2 3 xE
def uO:FS:=(r6 (sY (r9 sC (rV (c1 yy (cL (sR 1 [] (iL aa) (gN 0) ua (r9 AK (a1 (c1 (sU vd "words") aa)))))) (a1 (cS "a thing has 1 to 4 unlike words, as a tuple")))))
 (r6 (sO 1 (cL (tp vR bN)))
 (sY (r9 sC (rV (c1 yy (cL (sR 1 [1] (iL af) (gN 0) ua (r9 xF jK)))) (a1 (cS "one thing has all words of another")))))))
def uP:=fnD 1 2 uO
abbrev cn:=(rV aa (a1 af))
def zL:FS:=(r6 (sO 2 (uf (c1 (xt (vq "list")) aa) (uf (c1 yy (cL (sR 1 [1] (iL aa) (gN 0) ua (r9 tZ cn)))) (r9 ui bN))))
 (sY (r9 sC (rV ar (a1 (cS "dark is a list of rooms' names, each once"))))))
def zM:=fnD 2 3 zL
abbrev bM:=(cC (.int 2))
abbrev fE:=(cC (.int 4))
abbrev eQ:=(cC (.int 3))
abbrev cG:=(a1 af)
abbrev fI:=(a1 (c2 dIx aa aD))
def FY:FS:=(r6 (sIf (xn (wc (cT (c1 (xt (vq "tuple")) aa))) (cT (c2 (dEq true) (c1 uw aa) fE))) (sy cv) sF)
 (r6 (sO 3 (cOr (c2 BJ (c2 dIx aa eQ) bt) (r9 tZ (rV (c2 dIx aa eQ) dW))))
 (sy (uf (r9 tZ (rV (c2 dIx aa aW) cG)) (uf (r9 we fI) (uf (r9 tZ (rV (c2 dIx aa bM) cG)) av))))))
def FZ:=fnD 3 4 FY
abbrev gm:=(rV af (a1 ar))
abbrev fK:=(rV aa gm)
def zN:FS:=(r6 (sO 3 (uf (r9 uB (rV aa (a1 (cC DV)))) (c1 yy (cL (sR 1 [1,2] (iL aa) (gN 0) ua (r9 FZ fK))))))
 (r6 (sY (r9 sC (rV av (a1 (cS "ways are a list of at most 10 tuples (room, word, room, mark)")))))
 (sY (r9 sC (rV (r9 ui (a1 (cL (sR 1 [] (iL aa) (gN 0) ua (tL (rV (c2 dIx aa aW) fI)))))) (a1 (cS "two ways lead from one room by one word")))))))
def xO:=fnD 3 4 zN
def By:FS:=(r6 (sO 1 (uf (r9 uB (rV aa (a1 (cC Cr)))) (c1 yy (cL (sR 1 [] (iL aa) (gN 0) ua Fp)))))
 (sY (r9 sC (rV af (a1 (cS "verbs are a list of at most 6 verbs"))))))
def yR:=fnD 1 2 By
def D8:FS:=(sy (Dd (c1 EA (cL (sR 1 [1] (iL aa) (gN 0) ua (c2 (dIn false) aa af))))))
def xy:=fnD 2 2 D8
abbrev bf:=(cV 6)
abbrev bV:=(cV 7)
def wb:FS:=(r6 (uT 3 (sN sI))
 (r6 (vY (iL (cL (tp vR bN))) (gN 4) (sY (DQ 3 (c1 (sU vd "words") aw))))
 (r6 (uT 5 (sN sI))
 (r6 (vY (iL ar) (gN 6) (sY (DQ 5 (DP (tL (a1 (c1 (sU sZ "name") bf))) (c1 (sU BR "others") bf)))))
 (r6 (sO 7 (cL (uW (cL (sR 1 [] (iL ar) (gN 0) (cT (c2 y7 (c1 (sU AB "joining") aa) bt)) (c1 (sU AB "joining") aa))) (cL (sR 1 [] (iL af) (gN 0) ua (c2 dIx aa aD))))))
 (r6 (sY (r9 sC (rV (r9 ui (a1 (cFz 5))) (a1 (cS "two verbs' names are alike")))))
 (r6 (sY (r9 sC (rV (r9 xy (rV (cL (uW (cFz 5) bV)) (a1 (cFz 3)))) (a1 (cS "a verb's, way's or joining word is a word of a thing")))))
 (r6 (sY (r9 sC (rV (r9 xy (rV (cL (uW (cFz 5) bV)) (a1 (cC yh)))) (a1 (cS "the, a, undo or restart is a word of the world")))))
 (sY (r9 sC (rV (r9 xy (rV bV (a1 (cFz 5)))) (a1 (cS "a way's or joining word is a verb's name")))))))))))))
def uZ:=fnD 3 8 wb
abbrev gn:=(a1 aw)
def yS:FS:=(r6 (sY (r9 yp bN))
 (r6 (sY (r9 yO cG))
 (r6 (sY (r9 yQ cn))
 (r6 (sY (r9 yt bN))
 (r6 (sY (r9 uP bN))
 (r6 (sO 6 (cL (sR 1 [] (iL aa) (gN 0) (cT (c2 (dEq false) (c1 (sU tT "kind") aa) dc)) (c1 (sU sZ "name") aa))))
 (r6 (sY (r9 zM (rV ar (a1 bf))))
 (r6 (sY (r9 xO (rV av (rV bf (a1 (cL (tp xN cn)))))))
 (r6 (sY (r9 yR gn))
 (sY (r9 uZ (rV aa (rV av (a1 (cL (uW aw aE))))))))))))))))
def yT:=fnD 6 7 yS
def QC:FS:=(sy (tD 13 (λds=>AI (ds++[])) (rV aa (rV af (rV ar (rV av (a1 cv)))))))
def yU:=fnD 4 4 QC
def HC:FS:=(sy (tD 13 (λds=>AI (ds++[])) (rV aa (rV af (rV (cL (sN sI)) (rV ar (a1 cF)))))))
def tX:=fnD 3 3 HC
abbrev b0:=(cS "it")
abbrev fG:=(cS "here")
abbrev il:=(cS "fixed")
abbrev iq:=(cS "take")
def CA:FS:=(uI (sN (rV (r9 tX (rV iq (rV (cL (sN (a1 (tD 7 (λds=>uU (ds++[])) (rV b0 (a1 il)))))) (a1 (cS "That stays."))))) (rV (r9 tX (rV iq (rV (cL (sN (a1 (tD 3 (λds=>Bc (ds++[])) (rV b0 bN))))) (a1 (cS "You have that."))))) (rV (r9 yU (rV iq (rV (cL (sN sI)) (rV (cL (sN (a1 (tD 11 (λds=>xw (ds++[])) (rV b0 bN))))) (a1 (cS "Taken.")))))) (rV (r9 yU (rV (cS "drop") (rV (cL (sN (a1 (tD 4 (λds=>zJ (ds++[])) (a1 b0))))) (rV (cL (sN (a1 (tD 11 (λds=>xw (ds++[])) (rV b0 (a1 fG)))))) (a1 (cS "Dropped.")))))) (a1 (r9 tX (rV (cS "drop") (rV (cL (sN sI)) (a1 (cS "You lack that."))))))))))))
def CB:=fnN 1 1 CA
abbrev gf:=(cS "other")
abbrev c4:=(cS "box")
abbrev gj:=(cS "put")
abbrev eS:=(rV b0 (a1 gf))
def D9:FS:=(uI (sN (rV (r9 tX (rV gj (rV (cL (sN (a1 (tD 9 (λds=>uY (ds++[])) (a1 (tD 4 (λds=>zJ (ds++[])) (a1 b0))))))) (a1 (cS "You lack that."))))) (rV (r9 tX (rV gj (rV (cL (sN (a1 (tD 9 (λds=>uY (ds++[])) (a1 (tD 7 (λds=>uU (ds++[])) (rV gf (a1 c4)))))))) (a1 (cS "It holds nothing."))))) (rV (r9 tX (rV gj (rV (cL (sN (a1 (tD 6 (λds=>uk (ds++[])) (rV gf (a1 aW)))))) (a1 (cS "It is shut."))))) (a1 (r9 yU (rV gj (rV (cL (sN sI)) (rV (cL (sN (a1 (tD 11 (λds=>xw (ds++[])) eS)))) (a1 (cS "Done."))))))))))))
def Ea:=fnN 0 0 D9
abbrev jI:=(rV b0 (a1 aD))
abbrev jJ:=(rV b0 (a1 aW))
def Eb:FS:=(uI (sN (rV (r9 tX (rV (cS "open") (rV (cL (sN (a1 (tD 9 (λds=>uY (ds++[])) (a1 (tD 7 (λds=>uU (ds++[])) (rV b0 (a1 c4)))))))) (a1 (cS "It has no lid."))))) (rV (r9 tX (rV (cS "open") (rV (cL (sN (a1 (tD 6 (λds=>uk (ds++[])) jI)))) (a1 (cS "It is open."))))) (rV (r9 yU (rV (cS "open") (rV (cL (sN sI)) (rV (cL (sN (a1 (tD 12 (λds=>yj (ds++[])) jI)))) (a1 (cS "Opened.")))))) (rV (r9 tX (rV (cS "shut") (rV (cL (sN (a1 (tD 9 (λds=>uY (ds++[])) (a1 (tD 7 (λds=>uU (ds++[])) (rV b0 (a1 c4)))))))) (a1 (cS "It has no lid."))))) (rV (r9 tX (rV (cS "shut") (rV (cL (sN (a1 (tD 6 (λds=>uk (ds++[])) jJ)))) (a1 (cS "It is shut."))))) (a1 (r9 yU (rV (cS "shut") (rV (cL (sN sI)) (rV (cL (sN (a1 (tD 12 (λds=>yj (ds++[])) jJ)))) (a1 (cS "Shut."))))))))))))))
def Ec:=fnN 0 0 Eb
abbrev gh:=(a1 (cS "lamp"))
def BA:FS:=(uI (sN (rV (r9 tX (rV (cS "light") (rV (cL (sN (a1 (tD 9 (λds=>uY (ds++[])) (a1 (tD 7 (λds=>uU (ds++[])) (rV b0 gh))))))) (a1 (cS "It burns not."))))) (rV (r9 tX (rV (cS "light") (rV (cL (sN (a1 (tD 6 (λds=>uk (ds++[])) jI)))) (a1 (cS "It is lit."))))) (rV (r9 yU (rV (cS "light") (rV (cL (sN sI)) (rV (cL (sN (a1 (tD 12 (λds=>yj (ds++[])) jI)))) (a1 (cS "Lit.")))))) (rV (r9 tX (rV (cS "douse") (rV (cL (sN (a1 (tD 9 (λds=>uY (ds++[])) (a1 (tD 7 (λds=>uU (ds++[])) (rV b0 gh))))))) (a1 (cS "It burns not."))))) (rV (r9 tX (rV (cS "douse") (rV (cL (sN (a1 (tD 6 (λds=>uk (ds++[])) jJ)))) (a1 (cS "It is out."))))) (a1 (r9 yU (rV (cS "douse") (rV (cL (sN sI)) (rV (cL (sN (a1 (tD 12 (λds=>yj (ds++[])) jJ)))) (a1 (cS "Doused."))))))))))))))
def BB:=fnN 0 0 BA
abbrev lM:=(a1 (c2 dIx af aD))
def Ed:FS:=(r6 (uT 2 (sN (rV (tD 3 (λds=>Bc (ds++[])) (rV aa (a1 (c2 dIx af aW)))) (a1 (tD 8 (λds=>AH (ds++[])) lM)))))
 (r6 (sIf (cT (c2 y7 (c2 dIx af eQ) bt)) (sY (vX 2 (tD 9 (λds=>uY (ds++[])) (a1 (tD 6 (λds=>uk (ds++[])) (rV (c2 dIx af eQ) (a1 aW))))))) sF)
 (uI (K8 2))))
def Ee:=fnN 2 3 Ed
abbrev lY:=(a1 (c2 dIx aa bM))
def F0:FS:=(r6 (sO 2 (cL (sR 1 [0] (iL af) (gN 0) ua (r9 yU (rV (cS "go") (rV (cL (tp Ee jK)) (rV (cL (sN (a1 (tD 11 (λds=>xw (ds++[])) (rV af lY))))) (a1 (cS "You go.")))))))))
 (uI (uW ar (cL (sN (a1 (r9 tX (rV (cS "go") (rV (cL (sN sI)) (a1 (cS "No way there.")))))))))))
def F1:=fnN 2 3 F0
abbrev jD:=(cS "wait")
def CC:FS:=(uI (sN (a1 (r9 yU (rV jD (rV (cL (sN sI)) (rV (cL (sN sI)) (a1 (cS "Time goes by.")))))))))
def CD:=fnN 0 0 CC
def AL:FS:=(uI (uW (cL (uW (cL (uW (cL (uW (cL (uW (cL (tp CB bN)) (cL (tp Ea sI)))) (cL (tp Ec sI)))) (cL (tp BB sI)))) (cL (tp F1 cn)))) (cL (tp CD sI))))
def vE:=fnN 2 2 AL
abbrev ie:=(cS "two")
abbrev ir:=(cS "way")
def AM:FS:=(uI (uW (cL (sR 1 [] (iT (tL (rV iq (rV (cS "drop") (rV (cS "open") (rV (cS "shut") (rV (cS "light") (a1 (cS "douse"))))))))) (gN 0) ua (tD 2 (λds=>vC (ds++[D.non,(D.str "one"),D.non])) bN))) (cL (sN (rV (tD 2 (λds=>vC (ds++[])) (rV gj (rV (tL sI) (rV ie (a1 (cS "in")))))) (rV (tD 2 (λds=>vC (ds++[D.non])) (rV (cS "go") (rV (tL sI) (a1 ir)))) (a1 (tD 2 (λds=>vC (ds++[D.non])) (rV jD (rV (tL sI) (a1 (cS "alone"))))))))))))
def uQ:=fnN 0 0 AM
def DA:FS:=(r6 (Cg 1)
 (r6 (vY (iL aa) (gN 2) (tW 1 (c1 (sU sZ "name") ar) ar))
 (sy (cFz 1))))
def DB:=fnD 1 3 DA
def xG:FS:=(r6 (Cg 2)
 (r6 (vY (iL aa) (gN 3) (sIf (cT (tS uM "has_mark" av sI)) (tW 2 (c1 (sU sZ "name") av) aD) sF))
 (r6 (vY (iL af) (gN 4) (tW 2 (c1 (sU sZ "name") aw) (c1 (sU yf "most") aw)))
 (sy (cFz 2)))))
def u9:=fnD 2 5 xG
def Ab:FS:=(r6 (Cg 1)
 (r6 (vY (iL aa) (gN 2) (vY (iT (DP (tL (a1 (c1 (sU sZ "name") ar))) (c1 (sU BR "others") ar))) (gN 3) (tW 1 av ar)))
 (sy (cFz 1))))
def va:=fnD 1 4 Ab
def HD:FS:=(Lm (sU Kg "verb"))
def zg:=fnD 1 3 HD
def Ac:FS:=(uI (sR 1 [1] (iL (c1 (sU z7 "kept_things") aa)) (gN 0) (cT (c2 (dEq false) (c1 (sU tT "kind") aa) af)) (c1 (sU sZ "name") aa)))
def xH:=fnD 2 2 Ac
def ve:Nat->Option (List D->Option D):=λc=>match c with
 |14=>some xH
 |_=>none
def yH:FS:=(uI (uW (c1 (sU AC "kept_verbs") aa) (c1 (sU zb "shared_verbs") aa)))
def wF:=fnD 1 1 yH
def v5:Nat->Option (List D->Option D):=λc=>match c with
 |14=>some wF
 |_=>none
def wG:FS:=(r6 (sY (r9 yT (rV af (rV ar (rV av (rV aw (rV aE (a1 (cL (tp uQ sI))))))))))
 (r6 (tI 14 0 "kept_things" (cL (Ar af)))
 (r6 (tI 14 0 "kept_marks" (cL (Ar ar)))
 (r6 (tI 14 0 "kept_dark" (cL (Ar av)))
 (r6 (tI 14 0 "kept_ways" (cL (Ar aw)))
 (r6 (tI 14 0 "kept_verbs" (cL (Ar aE)))
 (r6 (tI 14 0 "shared_verbs" (cL (tp uQ sI)))
 (r6 (tI 14 0 "your_name" (yD 16 (c2 dIx (tS ve "of_kind" aa (a1 cx)) aW)))
 (r6 (tI 14 0 "things_by_name" (r9 DB cG))
 (r6 (tI 14 0 "mosts_by_name" (r9 u9 gm))
 (r6 (tI 14 0 "verbs_by_word" (yD 16 (r9 va (a1 (tS v5 "all_verbs" aa sI)))))
 (r6 (sO 7 (yD 16 (uf (r9 uB (rV bf (a1 (cC Cs)))) (c1 yy (cL (sR 1 [0] (iL bf) (gN 0) ua Fp))))))
 (r6 (sY (r9 sC (rV bV (a1 (cS "rules are a list of at most 20 rules, each as it may be")))))
 (r6 (tI 14 0 "kept_rules" (cL (Ar bf)))
 (r6 (tI 14 0 "shared_rules" (yD 16 (cL (tp vE (rV (c1 (sU xi "your_name") aa) gn)))))
 (r6 (tI 14 0 "copied_rules" (cL (sR 1 [] (iL bf) (gN 0) ua Fp)))
 (tI 14 0 "rules_by_verb" (yD 16 (r9 zg (a1 (cL (uW (c1 (sU xf "copied_rules") aa) (c1 (sU xg "shared_rules") aa)))))))))))))))))))))))
def wH:=fnI 14 6 8 wG
def Ef:FS:=(sy (c1 (sU xi "your_name") aa))
def Eg:=fnD 1 1 Ef
def zh:Nat->Option (List D->Option D):=λc=>match c with
 |14=>some Eg
 |_=>none
def zi:FS:=(sy (c2 G9 (c1 (sU yg "things_by_name") aa) af))
def zj:=fnD 2 2 zi
def ur:Nat->Option (List D->Option D):=λc=>match c with
 |14=>some zj
 |_=>none
def Ad:FS:=(sy (c2 (dIn false) af (c1 (sU Bu "kept_dark") aa)))
def Ae:=fnD 2 2 Ad
def xj:Nat->Option (List D->Option D):=λc=>match c with
 |14=>some Ae
 |_=>none
def F2:FS:=(r6 (vY (iT aa) (gN 2) (sIf (cT (c2 (dEq false) (c2 dIx ar aW) af)) (sy (c2 dIx ar aD)) sF))
 (sy bt))
def yu:=fnD 2 3 F2
def MH:FS:=(sy (r9 yu (rV aa (a1 (tL (rV (cS "at") cG))))))
def vS:=fnD 2 2 MH
def HE:FS:=(sy (r9 yu (rV aa (a1 (tL (rV (cS "mark") cG))))))
def wg:=fnD 2 2 HE
def CG:FS:=(r6 (uT 3 (sN sI))
 (r6 (sO 4 (r9 vS gm))
 (r6 (whL (cT (c2 y7 aw bt)) (r6 (sY (vX 3 aw))
 (sO 4 (r9 vS (rV af gn)))) 50)
 (uI (K8 3)))))
def xP:=fnN 3 5 CG
abbrev pY:=(a1 (tS zh "you" aa sI))
def HF:FS:=(sy (r9 vS (rV af pY)))
def wj:=fnD 2 2 HF
def HG:FS:=(sy (uf (c2 (dEq false) (c1 (sU tT "kind") (tS ur "thing_of" aa dW)) c4) (c2 (dEq false) (r9 wg gm) aW)))
def wm:=fnD 3 3 HG
def HH:FS:=(r6 (vY (iL (cL (tp xP fK))) (gN 4) (r6 (sIf (cT (c2 (dEq false) aw av)) (sy cF) sF)
 (sIf (cT (r9 wm (rV aa (rV af gn)))) (sy cv) sF)))
 (sy cv))
def wo:=fnD 4 5 HH
def UM:FS:=(sy (c2 (dIn false) (tS zh "you" aa sI) (cL (tp xP fK))))
def UN:=fnD 3 3 UM
abbrev jG:=(rV af (rV ar (a1 av)))
def F3:FS:=(sy (uf (c2 (dEq false) (r9 wg gm) aD) (r9 wo (rV aa jG))))
def zO:=fnD 4 4 F3
def Ki:FS:=(r6 (sO 2 (r9 wj cn))
 (r6 (sIf (wc (cT (tS xj "is_dark" aa dW))) (sy cF) sF)
 (sy (c1 EA (cL (sR 1 [0,1,2] (iL (tS ve "of_kind" aa gh)) (gN 0) ua (r9 zO (rV af (rV ar (rV aa iw))))))))))
def CH:=fnD 2 3 Ki
def HI:FS:=(r6 (sO 3 (tS ur "thing_of" aa dW))
 (r6 (sIf (xn (cT (c2 BJ av bt)) (wc (cT (tS uN "is_plainly" av sI)))) (sy cv) sF)
 (r6 (sIf (cT (r9 wo (rV aa (rV af (rV ar pY))))) (sy cF) sF)
 (sy (uf (r9 wo (rV aa (rV af (rV ar (a1 (r9 wj cn)))))) (r9 CH cn))))))
def DC:=fnD 3 4 HI
def Ag:FS:=(sy (c2 G9 (c1 (sU yE "verbs_by_word") aa) af))
def EB:=fnD 2 2 Ag
def yV:Nat->Option (List D->Option D):=λc=>match c with
 |14=>some EB
 |_=>none
def Eh:FS:=(r6 (sO 2 (cIf (cT (c2 BJ af bt)) bt (tS yV "verb_of" aa (a1 (c2 dIx af aW)))))
 (sy (uf (c2 y7 ar bt) (c2 (dEq false) (c1 (sU Kc "form") ar) ir))))
def AN:=fnD 2 3 Eh
abbrev fJ:=(a1 bt)
def Ei:FS:=(r6 (sIf (xn (cT (c2 BJ af bt)) (cT (r9 AN cn))) (sy (tL (rV bt fJ))) sF)
 (sy (tL (rV (c2 dIx af aD) (a1 (c2 dIx af bM))))))
def vF:=fnD 2 2 Ei
def Be:FS:=(r6 (sIf (cT (c2 (dEq false) av fG)) (sy (r9 wj cn)) sF)
 (r6 (sIf (cT (c2 (dEq false) av b0)) (sy (c2 dIx (r9 vF (rV aa dW)) aW)) sF)
 (r6 (sIf (cT (c2 (dEq false) av gf)) (sy (c2 dIx (r9 vF (rV aa dW)) aD)) sF)
 (sy av))))
def wI:=fnD 4 4 Be
abbrev ly:=(rV af (rV ar (rV av (a1 (c1 (sU Ke "term") aa)))))
abbrev pQ:=(rV af (rV ar (rV av (a1 (c1 (sU Hw "place") aa)))))
def BX:FS:=(r6 (sO 4 (r9 wI ly))
 (r6 (sO 5 (r9 vS (rV ar gn)))
 (sy (uf (c2 y7 aE bt) (c2 (dEq false) aE (r9 wI pQ))))))
def zP:=fnD 4 6 BX
abbrev lX:=(rV ar (a1 (r9 wI ly)))
def Ej:FS:=(sy (r9 UN (rV af lX)))
def Ek:=fnD 4 4 Ej
def CI:FS:=(sy (r9 DC (rV af lX)))
def CJ:=fnD 4 4 CI
def yw:FS:=(r6 (sO 4 (r9 wg lX))
 (sy (uf (c2 y7 aw bt) (c2 (dEq false) aw (c1 (sU Dw "value") aa)))))
def wJ:=fnD 4 5 yw
def zQ:FS:=(r6 (sO 4 (tS ur "thing_of" af (a1 (r9 wI ly))))
 (sy (uf (c2 y7 aw bt) (c2 (dEq false) (c1 (sU tT "kind") aw) (c1 (sU tT "kind") aa)))))
def CK:=fnD 4 5 zQ
def CL:FS:=(sy (uf (r9 AN (rV af iw)) (c2 (dEq false) (c2 dIx av aD) (c1 (sU Kh "word") aa))))
def CM:=fnD 4 4 CL
def El:FS:=(sy (r9 CH gm))
def Em:=fnD 4 4 El
def yI(g:Nat->Option (List D->Option D)):FS:=(sy (Dd (tS g "holds" (c1 (sU Hu "inner") aa) jG)))
def xQ(g:Nat->Option (List D->Option D)):FS:=(sy (uf (tS g "holds" (c1 (sU MF "one") aa) jG) (tS g "holds" (c1 (sU Hv "other") aa) jG)))
def zR:Nat->Option (List D->Option D):=λc=>match c with
 |3=>some zP
 |4=>some Ek
 |5=>some CJ
 |6=>some wJ
 |7=>some CK
 |8=>some CM
 |15=>some Em
 |_=>none
def tK:Nat->Nat->Option (List D->Option D)
 |0=>zR
 |n+1=>λc=>match c with
  |9=>some (fnD 4 4 (yI (tK n)))
  |10=>some (fnD 4 4 (xQ (tK n)))
  |c=>zR c
def AO:FS:=(r6 (sIf (cT (c2 Bl af (c1 uw aa))) (sy (c2 dIx aa af)) sF)
 (sy aW))
def wK:=fnD 2 2 AO
abbrev eO:=(cC (.int 2147483647))
abbrev cU:=(cC (.int 6))
abbrev fF:=(cC (.int 10))
abbrev jA:=(cC (.int 48271))
def CN:FS:=(r6 (uT 2 (sN sI))
 (r6 (sO 3 aW)
 (r6 (sIf (cT (c2 V5 aa (c2 DN fF (cC (.int 18))))) (sO 3 (c2 JG aa (c2 DN fF (cC (.int 18))))) sF)
 (r6 (whL (Br (vp (cT (c2 Fk av aW)) (cT (c2 Bl (c1 uw ar) af)))) (r6 (sY (vX 2 (c2 vB av (c2 DN fF cU))))
 (sO 3 (c2 Bq av (c2 DN fF cU)))) 200)
 (r6 (sO 4 (c2 vB (c2 xq (c2 tU (c2 vB aa eO) aD) jA) eO))
 (r6 (vY (iR1 af) (gN 5) (r6 (sO 4 (c2 vB (c2 xq (c2 tU (c2 tU aw (c2 xq (cC (.int 7919)) aE)) aD) jA) eO))
 (r6 (sO 6 (c2 vB (c2 xq aw (c2 tU (c2 Bq aw (cC (.int 1009))) (cC (.int 69621)))) eO))
 (sY (vX 2 (c2 vB (c2 xq bf (c2 tU (c2 Bq bf (cC (.int 2003))) (cC (.int 40692)))) (cC (.int 2147483399))))))))
 (uI (xK (cFz 2) oNo (oAt af)))))))))
def wN:=fnN 2 7 CN
def En:FS:=(r6 (sIf (Br (cT (c2 (dEq false) aa (cL (sN sI))))) (sy aW) sF)
 (sy (c2 vB (Mi 0) af)))
def rY:=fnM 1 2 En
abbrev dA:=(cC (.int 7))
abbrev rT:=(cC (.int 8))
abbrev jE:=(cC (.int 25))
abbrev iA:=(a1 rT)
def zS:FS:=(r6 (sO 1 (tu rY 0 (a1 jE)))
 (r6 (sO 2 (cS "bcdefghijklmnopqrstuvwxyz"))
 (uI (sR 1 [2,0,1] (iR1 (cC (.int 17))) (gN 0) ua (c2 JN (c2 dIx af (c2 vB (c2 tU av (c2 xq dA aa)) jE)) (c2 tU aD (tu rY 2 iA)))))))
def zT:=fnM 0 3 zS
abbrev dR:=(cC (.int 5))
abbrev ip:=(cS "plain")
abbrev lL:=(a1 (Ce (c1 uw aw)))
def xk:FS:=(r6 (uT 3 (sN sI))
 (r6 (uT 4 (uW af (cL (sN (a1 (c2 dIx aa dR))))))
 (r6 (vY (iL (cL (xK aa (oAt cU) (oAt (c2 tU cU (tu rY 2 iA)))))) (gN 5) (r6 (sO 6 (c2 dIx (cL (sN (rV ip (rV c4 (rV (cS "lamp") (rV il (rV c4 (rV (cS "lamp") (rV c4 (a1 ip)))))))))) (tu rY 2 iA)))
 (r6 (sY (vX 3 (tL (rV aE (rV bf (a1 (Dg 4 (tu rY 2 lL))))))))
 (sIf (cT (c2 (dEq false) bf c4)) (sY (vX 4 aE)) sF))))
 (uI (K8 3)))))
def vg:=fnL 2 7 xk
abbrev cZ:=(v7 (gN 0) (v7 (gN 1) (v7 (gN 2) Fc)))
abbrev dS:=(cV 9)
abbrev jB:=(a1 (cV 10))
abbrev iu:=(a1 (c1 uw av))
def AQ:FS:=(r6 (uT 1 (tp wN (rV aa (a1 (cC (.int 110))))))
 (r6 (sO 2 (tu zT 1 sI))
 (r6 (sO 3 (cL (xK ar oNo (oAt (c2 tU aD (tu rY 1 (a1 dR)))))))
 (r6 (sO 4 (cL (uW (cL (sR 1 [] (iL av) (gN 0) ua (tL (rV aa (rV dc fJ))))) (cL (sN (a1 (tL (rV (c2 dIx ar dR) (rV cx (a1 (c2 dIx av (tu rY 1 iu))))))))))))
 (r6 (sO 5 (cL (sN sI)))
 (r6 (vY (iL (cL (uW aw (uc vg 1 (rV ar iw))))) (gN 6) (r6 (sO 7 (tu rY 1 (a1 (c2 tU (c1 uw aE) aD))))
 (sO 5 (cL (uW (cL (uW (cL (xK aE oNo (oAt bV))) (cL (sN (a1 bf))))) (cL (xK aE (oAt bV) oNo)))))))
 (r6 (uT 8 (sN sI))
 (r6 (vY (iL (cL (xK ar (oAt (cC (.int 13))) (oAt (c2 tU (cC (.int 13)) (tu rY 1 (a1 dR))))))) (gN 9) (r6 (sO 10 (c2 tU aD (tu rY 1 (a1 eQ))))
 (sY (vX 8 (tL (rV dS (rV (tu rY 1 (a1 (c2 tU (cV 10) aD))) jB)))))))
 (r6 (sO 11 (cL (sR 1 [1] (iL av) (gN 0) (cT (c2 (dEq false) (tu rY 1 (a1 bM)) aD)) aa)))
 (r6 (sO 12 (cL (sN (rV (tL sI) (rV (tL (a1 (cS "red"))) (a1 (tL (rV (cS "old") (a1 (cS "red"))))))))))
 (r6 (sO 13 (cL (sR 3 [12,1] (iL aE) (gT cZ 3) ua (DP (tL bN) (c2 dIx av (tu rY 4 (a1 eQ)))))))
 (sy (za [("rows", aE),("marks", (cFz 8)),("dark", (cV 11)),("words", (cV 13)),("you", (c2 dIx ar dR))])))))))))))))
def AR:=fnD 1 14 AQ
abbrev dU:=(cS "rows")
def AS:FS:=(r6 (sO 1 (cL (sR 3 [] (iL (c2 tq aa dU)) (gT cZ 3) (cT (c2 (dEq false) af dc)) aa)))
 (uI (sN (rV (tL (rV (c2 dIx af aW) (rV (cS "north") (rV (c2 dIx af (c2 JG (c1 uw af) aD)) fJ)))) (a1 (tL (rV (c2 dIx af aW) (rV (cS "up") (rV (c2 dIx af aW) fJ)))))))))
def AU:=fnN 1 2 AS
abbrev gd:=(v7 (gN 0) (v7 (gN 1) Fc))
abbrev jF:=(rV (c2 dIx aa aD) lY)
def zU:FS:=(r6 (sO 1 (cL (sR 2 [] (iZ (rV (c2 tq aa dU) (a1 (c2 tq aa (cS "words"))))) (gT gd 2) ua (tD 0 (λds=>Cu (ds++[])) (rV (c2 dIx aa aW) (rV af jF))))))
 (r6 (sO 2 (cL (sR 3 [] (iL (c2 tq aa (cS "marks"))) (gT cZ 3) ua (tD 1 (λds=>DY (ds++[])) fK))))
 (sy (tD 14 (λds=>wH (ds++[])) (rV af (rV ar (rV (cL (Ar (c2 tq aa (cS "dark")))) (rV (cL (tp AU bN)) (rV (cL (sN sI)) (a1 (cL (sN sI))))))))))))
def zV:=fnD 1 3 zU
def HJ:FS:=(uI (sR 3 [1] (iL (c2 tq aa dU)) (gT cZ 3) (cT (c2 (dIn false) af av)) aa))
def tR:=fnN 2 2 HJ
abbrev jv:=(v7 (gN 3) (v7 (gN 4) Fc))
abbrev lS:=(v7 (gN 2) jv)
abbrev lZ:=(rV c4 gh)
def zW:FS:=(r6 (Cg 1)
 (r6 (vY (iL (cL (tp tR (rV aa (a1 (cL (sN lZ))))))) (gN 2) (tW 1 ar aD))
 (r6 (vY (iL (c2 tq aa (cS "marks"))) (gT lS 3) (tW 1 ar aw))
 (sy (cFz 1)))))
def u0:=fnD 1 5 zW
abbrev pV:=(rV aa (a1 (cL (sN (a1 c4)))))
def xl:FS:=(r6 (Cg 2)
 (r6 (uT 3 (tp tR (rV aa (a1 (cL (sN (rV dc (a1 cx))))))))
 (r6 (uT 4 (tp tR pV))
 (r6 (whL (Br (cT (c2 (dEq true) aw (cL (sN sI))))) (r6 (sO 5 (BN 4 (tu rY 1 lL)))
 (r6 (tW 2 aE (Dg 3 (tu rY 1 (a1 (Ce (c1 uw av))))))
 (sY (vX 3 aE)))) 50)
 (r6 (vY (iL (cL (tp tR (rV aa (a1 (cL (sN (rV ip (rV il gh))))))))) (gN 6) (tW 2 bf (Dg 3 (tu rY 1 (a1 (Ce (c1 uw av)))))))
 (r6 (sO 7 (cL (tp tR (rV aa (a1 (cL (sN (a1 dc))))))))
 (r6 (tW 2 (c2 tq aa cx) (c2 dIx bV (tu rY 1 (a1 (c1 uw bV)))))
 (sy (cFz 2)))))))))
def uH:=fnL 1 8 xl
def xR:FS:=(r6 (Cg 2)
 (r6 (vY (iIt (r9 u0 bN)) (gT jv 2) (tW 2 av (tu rY 1 (a1 (c2 tU aw aD)))))
 (sy (cFz 2))))
def vT:=fnL 1 5 xR
def CO:FS:=(r6 (sO 2 (cL (sR 2 [] (iIt aa) (gT gd 2) ua (tL (rV (tL (rV (cS "at") bN)) cG)))))
 (sy (G8 (cL (FC (cL (uW ar (cL (sR 2 [] (iIt af) (gT gd 2) ua (tL (rV (tL (rV (cS "mark") bN)) cG)))))))))))
def xS:=fnD 2 3 CO
def AV:FS:=(r6 (uT 2 (sN sI))
 (r6 (whL (cT (c2 (BK false) af aa)) (r6 (sO 1 (c2 tq aa af))
 (sY (vX 2 af))) 50)
 (uI (K8 2))))
def vG:=fnN 2 3 AV
def AW:FS:=(r6 (sO 5 (cL (tp vG (rV af iw))))
 (r6 (sIf (cT (c2 (dIn true) aw aE)) (sy cv) sF)
 (r6 (sO 6 (cL (sR 1 [2] (iL (cL (tp tR pV))) (gN 0) (cT (c2 (dEq false) (c2 tq af aa) aW)) aa)))
 (sy (c2 (dEq false) (cL (sR 1 [6] (iL (cL (xK aE oNo (oAt (c2 xh aE aw))))) (gN 0) (cT (c2 (dIn false) aa af)) aa)) (cL (sN sI)))))))
def tE:=fnD 5 7 AW
def F4:FS:=(r6 (sO 3 (c2 tq af (c2 tq aa cx)))
 (r6 (sO 4 (cL (sR 1 [2] (iL (cL (tp tR (rV aa (a1 (cL (sN gh))))))) (gN 0) (cT (c2 (dEq false) (c2 tq af aa) aD)) aa)))
 (r6 (sIf (cT (c2 (dIn true) av (c2 tq aa (cS "dark")))) (sy cF) sF)
 (sy (c2 (dEq true) (cL (sR 1 [0,1,2,3] (iL aw) (gN 0) (cT (r9 tE (rV af (rV ar (rV av (rV aa gn)))))) aa)) (cL (sN sI)))))))
def zX:=fnD 3 5 F4
abbrev pR:=(rV aa (a1 (cL (sN (rV ip (rV il lZ))))))
def Eo:FS:=(r6 (uT 3 (sN sI))
 (r6 (sO 4 (r9 zX fK))
 (r6 (vY (iL (cL (tp tR pR))) (gN 5) (r6 (sO 6 (uf aw (r9 tE (rV aa (rV af (rV ar (rV aE (a1 (c2 tq af (c2 tq aa cx))))))))))
 (sIf (xn (cT bf) (cT (r9 tE (rV aa (rV af (rV ar (rV aE (a1 (c2 tq aa cx))))))))) (sY (vX 3 aE)) sF)))
 (uI (Du (cFz 3))))))
def AX:=fnN 3 7 Eo
def wQ:FS:=(r6 (sO 2 (cL (tp tR pR)))
 (r6 (sO 3 (tu rY 1 iA))
 (r6 (sIf (xn (cT (c2 (dEq false) ar (cL (sN sI)))) (cT (c2 Fk av dR))) (sy (c2 dIx (cL (sN (rV (tL (rV (cS "go") (rV (c2 dIx (cL (sN (rV (cS "north") (a1 (cS "up"))))) (tu rY 1 (a1 bM))) fJ))) (a1 (tL (rV jD (rV bt fJ))))))) (c2 vB av bM))) sF)
 (r6 (sO 4 (c2 dIx ar (tu rY 1 (a1 (c1 uw ar)))))
 (r6 (sIf (cT (c2 Bl av bM)) (sy (tL (rV iq (rV aw fJ)))) sF)
 (sy (tL (rV gj (rV aw (a1 (c2 dIx ar (tu rY 1 (a1 (c1 uw ar))))))))))))))
def vH:=fnL 1 5 wQ
def Ep:FS:=(sy (c2 tq (za [("go", ir),("wait", (cS "alone")),("take", (cS "one")),("put", ie)]) (c2 dIx aa aW)))
def AY:=fnD 1 1 Ep
abbrev fC:=(rV (cS "one") (a1 (cS "two")))
abbrev lQ:=(rV gf (a1 gf))
abbrev pW:=(rV b0 (rV b0 (a1 b0)))
def xA:FS:=(r6 (sO 3 (cL (sR 3 [] (iL (c2 tq aa dU)) (gT cZ 3) ua aa)))
 (r6 (sO 4 (cL (uW (cL (cSl (cL (xK av (oAt (tu rY 2 iu)) oNo)) none (some 3))) (cL (sN (a1 fG))))))
 (r6 (sIf (cT (c2 (dIn false) af (cL (sN fC)))) (sO 4 (cL (uW aw (cL (sN pW))))) sF)
 (r6 (sIf (cT (c2 (dEq false) af ie)) (sO 4 (cL (uW aw (cL (sN lQ))))) sF)
 (sy (c2 dIx aw (tu rY 2 (a1 (c1 uw aw)))))))))
def vJ:=fnL 2 5 xA
def xT:FS:=(r6 (sO 3 (cL (tp tR (rV aa (a1 (cL (sN (rV dc (rV c4 (a1 cx))))))))))
 (r6 (uT 4 (sN (rV (c2 dIx av (tu rY 2 iu)) (rV (c2 dIx av (tu rY 2 iu)) (a1 fG)))))
 (r6 (sIf (cT (c2 (dIn false) af (cL (sN fC)))) (sY (vX 4 b0)) sF)
 (r6 (sIf (cT (c2 (dEq false) af ie)) (uT 4 (uW (cFz 4) (cL (sN lQ)))) sF)
 (sy (Dg 4 (tu rY 2 lL)))))))
def xU:=fnL 2 5 xT
abbrev iz:=(a1 fE)
def xm:FS:=(r6 (sO 3 (r9 u0 bN))
 (r6 (sO 4 (cL (Dv av)))
 (r6 (sIf (vp (cT (c2 (dIn false) af (cL (sN fC)))) (xn (cT (c2 (dEq false) aw (cL (sN sI)))) (cT (c2 (dEq false) (tu rY 2 (a1 bM)) aW)))) (sy (tL (rV (c2 dIx (cL (sN (rV b0 (a1 (c2 dIx (cL (sN eS)) (c1 JI (c2 (dEq false) af ie))))))) (tu rY 2 (a1 bM))) (a1 (tu rY 2 iz))))) sF)
 (r6 (sO 5 (c2 dIx aw (tu rY 2 (a1 (c1 uw aw)))))
 (sy (tL (rV aE (a1 (tu rY 2 (a1 (c2 tU (c2 tq av aE) aD)))))))))))
def vZ:=fnL 2 6 xm
abbrev dQ:=(cS "both")
abbrev eR:=(cS "not")
abbrev ik:=(cS "marked")
abbrev jC:=(a1 (cS "lit"))
abbrev pJ:=(v7 (gN 6) (v7 (gN 7) Fc))
abbrev fH:=(rV aa (rV af (a1 (c2 JG av aD))))
abbrev lR:=(rV dA (a1 fF))
abbrev pX:=(rV ik (rV bf (a1 bV)))
abbrev p9:=(a1 (uc vJ 2 cn))
def uj(g:List D->List D->Option (D×List D)):FS:=(r6 (sO 4 (tu rY 2 (a1 (c2 dIx (cL (sN lR)) (c1 JI (c2 Fk av aD))))))
 (r6 (sIf (cT (c2 (dEq false) aw aW)) (sy (tL (rV (cS "at") (rV (uc vJ 2 cn) (a1 (uc xU 2 cn)))))) sF)
 (r6 (sIf (cT (c2 (dEq false) aw aD)) (sy (tL (rV (cS "has") p9))) sF)
 (r6 (sIf (cT (c2 (dEq false) aw bM)) (sy (tL (rV (cS "seen") p9))) sF)
 (r6 (sIf (cT (c2 (dEq false) aw eQ)) (r6 (sO 5 (cL (sN (rV dc (rV ip (rV il (rV c4 (rV (cS "lamp") (rV cx lZ)))))))))
 (sy (tL (rV (cS "kind") (rV (uc vJ 2 cn) (a1 (c2 dIx aE (tu rY 2 iA)))))))) sF)
 (r6 (sIf (vp (cT (c2 (dEq false) aw fE)) (cT (c2 (dEq false) af ir))) (sy (tL (rV (cS "word") (a1 (c2 dIx (cL (sN (rV (cS "north") (rV (cS "up") (rV (cS "down") (a1 (cS "upp"))))))) (tu rY 2 iz)))))) sF)
 (r6 (sIf (vp (cT (c2 Bl aw cU)) (xn (cT (c2 (dIn false) af (cL (sN fC)))) (cT (c2 TN (r9 u0 bN) (za []))))) (r6 (K7 (uc vZ 2 cn) (gT pJ 2))
 (sy (tL pX))) sF)
 (r6 (sIf (cT (c2 Bl aw dA)) (sy (tL jC)) sF)
 (r6 (sIf (cT (c2 (dEq false) aw dA)) (sy (tL (rV eR (a1 (uc g 2 fH))))) sF)
 (sy (tL (rV dQ (rV (uc g 2 fH) (a1 (uc g 2 fH)))))))))))))))
def sV:Nat->List D->List D->Option (D×List D)
 |0=>fnJ 2 3 8 NR
 |n+1=>fnJ 2 3 8 (uj (sV n))
def vK(g:List D->Option D):FS:=(r6 (sO 1 (c2 dIx aa aW))
 (r6 (sIf (cT (c2 (dEq false) af (cS "at"))) (sy (tD 3 (λds=>Bc (ds++[])) jF)) sF)
 (r6 (sIf (cT (c2 (dEq false) af (cS "has"))) (sy (tD 4 (λds=>zJ (ds++[])) fI)) sF)
 (r6 (sIf (cT (c2 (dEq false) af (cS "seen"))) (sy (tD 5 (λds=>D1 (ds++[])) fI)) sF)
 (r6 (sIf (cT (c2 (dEq false) af ik)) (sy (tD 6 (λds=>uk (ds++[])) jF)) sF)
 (r6 (sIf (cT (c2 (dEq false) af (cS "kind"))) (sy (tD 7 (λds=>uU (ds++[])) jF)) sF)
 (r6 (sIf (cT (c2 (dEq false) af (cS "word"))) (sy (tD 8 (λds=>AH (ds++[])) fI)) sF)
 (r6 (sIf (cT (c2 (dEq false) af eR)) (sy (tD 9 (λds=>uY (ds++[])) (a1 (r9 g fI)))) sF)
 (r6 (sIf (cT (c2 (dEq false) af dQ)) (sy (tD 10 (λds=>D5 (ds++[])) (rV (r9 g fI) (a1 (r9 g lY))))) sF)
 (sy (Yq 15)))))))))))
def tP:Nat->List D->Option D
 |0=>fnD 1 2 NR
 |n+1=>fnD 1 2 (vK (tP n))
def CP:FS:=(sy (He (za [("it", (c2 dIx ar aD)),("other", (c2 dIx ar bM)),("here", (c2 tq af (c2 tq aa cx)))]) av av))
def wU:=fnD 4 4 CP
abbrev p6:=(rV av (a1 (c2 dIx aw aD)))
abbrev pP:=(rV aa (rV af (rV ar p6)))
abbrev pS:=(rV av (a1 (c2 dIx aw bM)))
abbrev p8:=(rV aa (rV af pS))
def ud(g:List D->Option D):FS:=(r6 (sO 5 (c2 dIx aw aW))
 (r6 (sIf (cT (c2 (dEq false) aE eR)) (sy (Dd (r9 g pP))) sF)
 (r6 (sIf (cT (c2 (dEq false) aE dQ)) (sy (uf (r9 g pP) (r9 g (rV aa (rV af (rV ar pS)))))) sF)
 (r6 (sIf (cT (c2 (dEq false) aE (cS "lit"))) (sy (r9 zX fK)) sF)
 (r6 (sIf (cT (c2 (dEq false) aE (cS "word"))) (sy (uf (c2 (dEq false) (c2 dIx av aW) (cS "go")) (c2 (dEq false) (c2 dIx av aD) (c2 dIx aw aD)))) sF)
 (r6 (sO 6 (r9 wU (rV aa (rV af p6))))
 (r6 (sIf (cT (c2 (dEq false) aE (cS "at"))) (sy (uf (c2 (BK false) bf af) (c2 (dEq false) (c2 tq af bf) (r9 wU p8)))) sF)
 (r6 (sIf (cT (c2 (dEq false) aE (cS "has"))) (sy (c2 (dIn false) (c2 tq aa cx) (cL (tp vG (rV af (a1 bf)))))) sF)
 (r6 (sIf (cT (c2 (dEq false) aE (cS "seen"))) (sy (c2 (dIn false) bf (cL (tp AX fK)))) sF)
 (r6 (sIf (cT (c2 (dEq false) aE ik)) (sy (uf (c2 (BK false) bf ar) (c2 (dEq false) (c2 tq ar bf) (c2 dIx aw bM)))) sF)
 (sy (c2 (dEq false) (cL (sR 3 [6] (iL (c2 tq aa dU)) (gT cZ 3) (cT (c2 (dEq false) aa av)) af)) (cL (sN (a1 (c2 dIx aw bM))))))))))))))))
def uC:Nat->List D->Option D
 |0=>fnD 5 7 NR
 |n+1=>fnD 5 7 (ud (uC n))
def CQ:FS:=(sy (uf (c1 (xt (vq "bool")) aa) (c2 (dEq false) aa af)))
def vU:=fnD 2 2 CQ
abbrev lF:=(rV af (a1 (cL (sN (a1 dc)))))
def um(g:List D->Option D):FS:=(r6 (sO 2 (c2 dIx af aW))
 (r6 (sIf (cT (c2 (dEq false) ar eR)) (sy (tL (rV eR (a1 (r9 g (rV aa lM)))))) sF)
 (r6 (sIf (cT (c2 (dEq false) ar dQ)) (sy (tL (rV dQ (rV (r9 g (rV aa lM)) (a1 (r9 g (rV aa (a1 (c2 dIx af bM))))))))) sF)
 (r6 (sIf (xn (cT (c2 (dEq false) ar (cS "word"))) (vp (cT (c2 (dEq false) ar ik)) (cT (c2 (dIn false) (c2 dIx af aD) (cL (sN eS)))))) (sy (tL jC)) sF)
 (r6 (sO 3 (cL (sR 1 [] (iL (c2 tq aa dU)) (gN 0) ua (c2 dIx aa aW))))
 (r6 (uT 4 (sN dW))
 (r6 (vY (iT (Qx af (some 1) none)) (gN 5) (r6 (sIf (cT (c2 (dIn false) aE (cL (sN eS)))) (sO 5 (c2 tq aa cx)) (sIf (cT (c2 (dEq false) aE fG)) (sO 5 (c2 dIx (cL (sR 1 [0] (iL av) (gN 0) (cT (c2 (dIn false) aa (cL (tp tR lF)))) aa)) aW)) sF))
 (sY (vX 4 aE))))
 (sy (G8 (cFz 4))))))))))
def uo:Nat->List D->Option D
 |0=>fnD 2 6 NR
 |n+1=>fnD 2 6 (um (uo n))
abbrev jy:=(v7 (gN 7) (v7 (gN 13) Fc))
abbrev gq:=(a1 dS)
abbrev pM:=(rV (tS (tK 3) "holds" (cV 11) (rV ar (rV (cV 14) (a1 (cV 8))))) (a1 (r9 (uC 4) (rV af (rV bV (rV (cV 13) (rV (cV 8) gq)))))))
abbrev pN:=(rV af (rV bV (rV (cV 13) (rV (tL (rV jD (rV bt (a1 bt)))) jB))))
abbrev pO:=(rV (tS (tK 3) "holds" (cV 12) (rV ar (rV (cV 14) (a1 bt)))) (a1 (cV 15)))
abbrev lG:=(rV dQ (rV dS gq))
abbrev pU:=(rV af (rV (r9 AY (a1 (cV 8))) (a1 fE)))
abbrev pZ:=(rV av (a1 (cC (.int 130))))
abbrev p5:=(rV bV (a1 (uc vT 4 cG)))
def QD:FS:=(r6 (sO 1 (r9 AR (a1 (r9 wK (rV aa (a1 aW))))))
 (r6 (sO 2 (r9 zV cG))
 (r6 (vY (iL (cL (uW (cL (sN (a1 (r9 wK (rV aa (a1 aD)))))) (cL (cSl aa (some 2) (some 7)))))) (gN 3) (r6 (uT 4 (tp wN pZ))
 (r6 (uT 5 (sN sI))
 (r6 (vY (iR1 bM) (gN 6) (r6 (sO 7 (uc uH 4 cG))
 (sY (vX 5 (tL p5)))))
 (r6 (sO 8 (uc vH 4 cG))
 (r6 (sO 9 (uc (sV 4) 4 pU))
 (r6 (sO 10 (r9 (uo 4) (rV af gq)))
 (r6 (sIf (vp (cT (c2 (dEq false) (tu rY 4 iz) aD)) (vp (cT (c2 (dEq true) (c2 dIx dS aW) eR)) (cT (c2 (dEq true) (c2 dIx dS aW) dQ)))) (sO 9 (tL lG)) sF)
 (r6 (sO 11 (r9 (tP 4) gq))
 (r6 (sO 12 (r9 (tP 4) jB))
 (vY (iL (cL (uW (cFz 5) (cL (cSl (cFz 5) none (some 1)))))) (gT jy 2) (r6 (sO 14 (r9 xS (rV bV (a1 (cV 13)))))
 (r6 (sIf (wc (cT (r9 vU pM))) (sy cv) sF)
 (r6 (sO 15 (r9 (uC 4) pN))
 (sIf (wc (cT (r9 vU pO))) (sy cv) sF)))))))))))))))
 (sy cF))))
def UO:=fnD 1 16 QD
section
variable{k:Nat}{cap:List Nat}{g:FG}{ft:FT}{fe e:FE}{s:FA}{ρ ρ1 ρ2:bg}{α:Type}
theorem uR(h:e ρ=some (.bl true,ρ1)):sY (r9 sC (rV e (rV (cC m) sI))) ρ=some (.nx ρ1):=tV (rZ (rW h (rW rfl rfl)) rfl)
theorem Ah(dd h:α->L4.D)(l:List α)(hs:s ρ=some (l.map dd,ρ1))(hl:l.length<=1000)(st:∀a∈l,∃ρ2 ρ3,g (dd a) (Bk k cap ρ1)=some ρ2/\fe ρ2=some (h a,ρ3)/\vW cap (ρ3.drop k) ρ1=some ρ1):
  sR k cap s g ua fe ρ=some (l.map h,ρ1):=(zB hs (by rw[ah];exact hl)).trans (II dd h l st)
theorem wV(dd h:α->L4.D)(p:α->Bool)(l:List α)(hs:s ρ=some (l.map dd,ρ1))(hl:l.length<=1000)
  (st:∀a∈l,∃ρ2 ρ3,g (dd a) (Bk k cap ρ1)=some ρ2/\ft ρ2=some (p a,ρ3)/\(p a=true->∃ρ4,fe ρ3=some (h a,ρ4)/\vW cap (ρ4.drop k) ρ1=some ρ1)/\(p a=false->vW cap (ρ3.drop k) ρ1=some ρ1)):
  sR k cap s g ft fe ρ=some ((l.filter p).map h,ρ1):=(zB hs (by rw[ah];exact hl)).trans (FH dd p h l st)
theorem yx(dd:α->L4.D)(l:List α)(hs:s ρ=some (l.map dd,ρ1))(hl:l.length<=1000)(st:∀a∈l,∃ρ2 ρ3,g (dd a) (Bk k cap ρ1)=some ρ2/\fe ρ2=some (.bl true,ρ3)/\vW cap (ρ3.drop k) ρ1=some ρ1):
  c1 yy (cL (sR k cap s g ua fe)) ρ=some (.bl true,ρ1):=
 tQ (tJ (Ah dd (λ_=>.bl true) l hs hl st)) ((MB l λ_=>true).trans (by rw[bJ.mpr λ_ _=>rfl]))
theorem QE(dd:α->L4.D)(l:List α)(hs:s ρ=some (l.map dd,ρ1))(hl:l.length<=1000)(st:∀a∈l,∃ρ2 ρ3,g (dd a) (Bk k cap ρ1)=some ρ2/\fe ρ2=some (.bl false,ρ3)/\vW cap (ρ3.drop k) ρ1=some ρ1):
  c1 EA (cL (sR k cap s g ua fe)) ρ=some (.bl false,ρ1):=
 tQ (tJ (Ah dd (λ_=>.bl false) l hs hl st)) ((MC l λ_=>false).trans (by rw[ni.mpr λ_ _=>bA]))
end
inductive Kd where
 |room|you|plain|fixed|box|lamp
deriving DecidableEq
def Kd.s:Kd->Str
 |.room=>"room" |.you=>"you" |.plain=>"plain" |.fixed=>"fixed" |.box=>"box" |.lamp=>"lamp"
def Kd.pl:Kd->Bool
 |.room=>false|.you=>false|_=>true
def Kd.hd:Kd->Bool
 |.room=>true|.you=>true|.box=>true|_=>false
def Kd.mk:Kd->Bool
 |.box=>true|.lamp=>true|_=>false
structure Th where
 n:Str
 w:aF
 k:Kd
 s:Option Str
def oS:Option Str->L4.D
 |none=>.non
 |some x=>.str x
def thD(t:Th):L4.D:=.obj 0 ["name", "words", "kind", "start"] [.str t.n,.tup (t.w.map D.str),.str t.k.s,oS t.s]
theorem yW(t:Th):sU sZ "name" (thD t)=some (.str t.n):=rfl
theorem IV(t:Th):sU vd "words" (thD t)=some (.tup (t.w.map D.str)):=rfl
theorem BY(t:Th):sU tT "kind" (thD t)=some (.str t.k.s):=rfl
theorem IW(t:Th):sU uA "start" (thD t)=some (oS t.s):=rfl
theorem F5(a b:Kd):dEq false (.str a.s) (.str b.s)=some (.bl (decide (a=b))):=by cases a<;>cases b<;>kernel_rfl
theorem TV(t:Th):zd [thD t]=some (.bl t.k.hd):=by obtain⟨n,w,k,s⟩:=t;cases k<;>kernel_rfl
theorem MI(t:Th):zf [thD t]=some (.bl t.k.mk):=by obtain⟨n,w,k,s⟩:=t;cases k<;>kernel_rfl
theorem Kj(t:Th):ym [thD t]=some (.bl t.k.pl):=by obtain⟨n,w,k,s⟩:=t;cases k<;>kernel_rfl
theorem TX(t:Th):tZ [.str t.k.s,IU]=some (.bl true):=by obtain⟨n,w,k,s⟩:=t;cases k<;>kernel_rfl
abbrev TD(T:List Th):L4.D:=.lst (T.map thD)
theorem count_eq(T:List Th)(hl:T.length<=1000)(k:Kd):zK [TD T,.str k.s]=some (.int (T.filter λt=>decide (t.k=k)).length):=by refine sv (ρ:=[.im (TD T),.im (.str k.s)]) rfl ?_;refine sH (tQ (tJ (wV thD thD (λt=>decide (t.k=k)) T (ρ1:=[.im (TD T),.im (.str k.s)]) rfl hl λt _=>⟨[.im (thD t),.im (.str k.s)],[.im (thD t),.im (.str k.s)],rfl,tN (se (tQ rfl (BY t)) rfl (F5 t.k k)),λ_=>⟨_,rfl,rfl⟩,λ_=>rfl⟩)) ?_);show some (D.int _)=_;rw[ah]
theorem yX(T:List Th)(hl:T.length<=1000):vR [TD T]=some ((T.filter λt=>t.k.pl).map thD):=by refine zC (ρ:=[.im (TD T)]) rfl ?_;exact zz (wV thD thD (λt=>t.k.pl) T (ρ1:=[.im (TD T)]) rfl hl λt _=>⟨[.im (thD t)],[.im (thD t)],rfl,tN (uh (xs:=[.str t.n,.tup (t.w.map D.str),.str t.k.s,oS t.s]) (ys:=[]) rfl rfl rfl rfl (Kj t)),λ_=>⟨_,rfl,rfl⟩,λ_=>rfl⟩)
theorem CS(h1:a ρ=some (.int x,ρ))(h2:b ρ=some (.int y,ρ))(h3:c ρ=some (.int z,ρ))(hx:x<=y)(hy:y<=z):v8 yM yM a b c ρ=some (.bl true,ρ):=by
 unfold v8;rw[h1];simp only[h2];have e1:yM (.int x) (.int y)=some (.bl true):=by show some (D.bl (decide (x<=y)))=_;rw[ba hx]
 have e2:yM (.int y) (.int z)=some (.bl true):=by show some (D.bl (decide (y<=z)))=_;rw[ba hy]
 simp only[e1,h3,e2]
theorem UP(h1:a ρ=some (.int x,ρ))(h2:b ρ=some (.int y,ρ))(hx:x<=y):c2 yM a b ρ=some (.bl true,ρ):=se h1 h2 (by
 show some (D.bl (decide (x<=y)))=_;rw[ba hx])
theorem EC(T:List Th)(hl:T.length<=1000)(h1:1<=(T.filter λt=>decide (t.k=.room)).length)(h5:(T.filter λt=>decide (t.k=.room)).length<=5)(hy:(T.filter λt=>decide (t.k=.you)).length=1)(h7:(T.filter λt=>t.k.pl).length<=7):
  yp [TD T]=some .non:=by
 let ρ:bg:=[.im (TD T),.im (.bl true)];refine zH (ρ:=ρ) rfl ?_;unfold yn;rw[rX (show _=some (Out.nx ρ) from(sE ((tM rfl).trans (yx thD T (ρ1:=[.im (TD T),.un]) rfl hl λt _=>⟨_,_,rfl,rfl,rfl⟩))).trans rfl)];rw[rX (uR (ρ1:=ρ) rfl)];rw[rX (uR (ρ1:=ρ) (yx thD T rfl hl λt _=>⟨[.im (thD t)],[.im (thD t)],rfl,rZ (rW (tQ rfl (BY t)) (rW rfl rfl)) (TX t),rfl⟩))];rw[rX (uR (ρ1:=ρ) (CS (x:=1) (y:=(T.filter λt=>decide (t.k=.room)).length) (z:=5) rfl (rZ (ds:=[TD T,.str Kd.room.s]) rfl (count_eq T hl .room)) rfl (by omega) (by omega)))];rw[rX (uR (ρ1:=ρ) (se (ρ1:=ρ) (x:=.int (T.filter λt=>decide (t.k=.you)).length) (y:=.int 1) (rZ (ds:=[TD T,.str Kd.you.s]) rfl (count_eq T hl .you)) rfl (by rw[hy];rfl)))];refine uR (ρ1:=ρ) (UP (x:=(T.filter λt=>t.k.pl).length) (y:=7) (tQ (tJ (rZ rfl (yX T hl))) ?_) rfl (by omega));show some (D.int _)=_;rw[ah]
structure Mk where
 n:Str
 st:Int
 mo:Int
def mkD(m:Mk):L4.D:=.obj 1 ["name", "start", "most"] [.str m.n,.int m.st,.int m.mo]
def Mk.ok(m:Mk):Prop:=1<=m.mo/\m.mo<=3/\0<=m.st/\m.st<=m.mo
abbrev MD(M:List Mk):L4.D:=.lst (M.map mkD)
theorem IY(m:Mk):sU sZ "name" (mkD m)=some (.str m.n):=rfl
theorem Lx(m:Mk)(h:m.ok):Dy [mkD m]=some (.bl true):=by obtain⟨h1,h2,h3,h4⟩:=h;refine sv (ρ:=[.im (mkD m)]) rfl ?_;unfold Dx;rw[rX (show _=some (Out.nx [.im (mkD m)]) from rfl)];exact sH ((tM (CS (x:=1) (y:=m.mo) (z:=3) rfl rfl rfl h1 h2)).trans (CS (x:=0) (y:=m.st) (z:=m.mo) rfl rfl rfl h3 h4))
theorem F6(M:List Mk)(hl:M.length<=4)(h:∀m∈M,m.ok):yO [MD M]=some .non:=by
 let ρ:bg:=[.im (MD M),.im (.bl true)];refine zH (ρ:=ρ) rfl ?_;unfold yN;have e0:uB [MD M,xM]=some (.bl true):=by refine sv (ρ:=[.im (MD M),.im (.int 4)]) rfl ?_;refine sH ((tM rfl).trans (UP (x:=M.length) (y:=4) ?_ rfl (by omega)));refine tQ rfl ?_;show some (D.int _)=_;rw[ah]
 rw[rX (show _=some (Out.nx ρ) from(sE ((tM (rZ (ds:=[MD M,xM]) rfl e0)).trans (yx mkD M (ρ1:=[.im (MD M),.un]) rfl (by omega) λm hm=>⟨[.im (mkD m)],[.im (mkD m)],rfl,rZ rfl (Lx m (h m hm)),rfl⟩))).trans rfl)];exact uR (ρ1:=ρ) rfl
def nmS(l c:Nat):Str:=ib ⟨#[98+l]⟩ (1+(c:Int))
def Nm(x:Str):Prop:=∃l c,l<25/\c<8/\x=nmS l c
def isT:Option L4.D->Bool
 |some (.bl b)=>b
 |_=>false
theorem QF(h:isT o=true):o=some (.bl true):=by
 unfold isT at h;split at h
 ·rw[h]
 ·cases h
theorem IZ{p:Str->Bool}(h:((bH 25).all λl=>(bH 8).all λc=>p (nmS l c))=true){x:Str}(hx:Nm x):p x=true:=by obtain⟨l,c,hl,hc,rfl⟩:=hx;exact bJ.mp (bJ.mp h l (cB.mpr hl)) c (cB.mpr hc)
theorem Ly(h:Nm x):Bb [.str x]=some (.bl true):=QF (IZ (p:=λx=>isT (Bb [.str x])) (by kernel_rfl) h)
theorem LA(h:Nm x):we [.str x]=some (.bl true):=QF (IZ (p:=λx=>isT (we [.str x])) (by kernel_rfl) h)
theorem Kk:we [.str "red"]=some (.bl true):=by kernel_rfl
theorem Kl:we [.str "old"]=some (.bl true):=by kernel_rfl
def noW(x:Str):Bool:=decide (x∉(["red", "old", "take", "drop", "open", "shut", "light", "douse", "put", "go", "wait", "in", "north", "up", "the", "a", "undo", "restart"]:aF))
theorem QG(h:Nm x):x∉(["red", "old", "take", "drop", "open", "shut", "light", "douse", "put", "go", "wait", "in", "north", "up", "the", "a", "undo", "restart"]:aF):=bu (IZ (p:=noW) (by kernel_rfl) h)
def sg(x:Str):Nat:=x.cps.getD 0 0
theorem aas(hl:l<25)(hc:c<8):sg (nmS l c)=98+l:=by
 have h:((bH 25).all λl=>(bH 8).all λc=>sg (nmS l c)==98+l)=true:=by kernel_rfl
 exact fz (bJ.mp (bJ.mp h l (cB.mpr hl)) c (cB.mpr hc))
theorem F7{l:aF}(h:l.Nodup)(hl:l.length<=1000):ui [.lst (l.map D.str)]=some (.bl true):=by
 refine sv (ρ:=[.im (.lst (l.map D.str))]) rfl ?_;refine sH (se (x:=.int l.length) (y:=.int l.length) (tQ rfl (Td (DT h hl))) (tQ rfl ?_) ?_)
 ·show some (D.int _)=_;rw[ah]
 ·rw[vQ];simp
theorem LB{l:aF}(h:l.Nodup)(hl:l.length<=1000):ui [.tup (l.map D.str)]=some (.bl true):=by
 refine sv (ρ:=[.im (.tup (l.map D.str))]) rfl ?_;refine sH (se (x:=.int l.length) (y:=.int l.length) (tQ rfl (DT h hl)) (tQ rfl ?_) ?_)
 ·show some (D.int _)=_;rw[ah]
 ·rw[vQ];simp
theorem F8(T:List Th)(M:List Mk)(hT:T.length<=400)(hM:M.length<=400)(hn:∀x∈T.map Th.n++M.map Mk.n,Nm x)(nd:(T.map Th.n++M.map Mk.n).Nodup):yQ [TD T,MD M]=some .non:=by
 have hl:(T.map Th.n++M.map Mk.n).length<=1000:=by rw[aC,ah,ah];omega
 let ρ0:bg:=[.im (TD T),.im (MD M),.un];let ρ:bg:=[.im (TD T),.im (MD M),.im (.lst ((T.map Th.n++M.map Mk.n).map D.str))];refine zH (ρ:=ρ) rfl ?_;unfold yP;have e1:sR 1 [] (iL aa) (gN 0) ua (c1 (sU sZ "name") aa) ρ0=some (T.map λt=>D.str t.n,ρ0):=Ah thD (λt=>D.str t.n) T rfl (by omega) λt _=>⟨_,_,rfl,tQ rfl (yW t),rfl⟩;have e2:sR 1 [] (iL af) (gN 0) ua (c1 (sU sZ "name") aa) ρ0=some (M.map λt=>D.str t.n,ρ0):=Ah mkD (λt=>D.str t.n) M rfl (by omega) λt _=>⟨_,_,rfl,tQ rfl (IY t),rfl⟩;have e3:=sE (i:=2) (tJ (wZ (tJ e1) (tJ e2) (by rw[ah,ah];omega)));refine(rX (ρ':=ρ) (e3.trans (by
  have:(T.map λt=>D.str t.n)++(M.map λt=>D.str t.n)=(T.map Th.n++M.map Mk.n).map D.str:=by rw[bj,aZ,aZ];rfl
  rw[this];rfl))).trans ?_
 rw[rX (uR (ρ1:=ρ) (yx D.str (T.map Th.n++M.map Mk.n) rfl hl λx hx=>⟨_,_,rfl,rZ rfl (Ly (hn x hx)),rfl⟩))];exact uR (ρ1:=ρ) (rZ rfl (F7 nd hl))
def rmN(T:List Th):aF:=(T.filter λt=>decide (t.k=.room)).map Th.n
def hdN(T:List Th):aF:=(T.filter λt=>t.k.hd).map Th.n
abbrev ig:=(cC (.str "room"))
theorem Km(T:List Th)(hl:T.length<=1000)(hi:cV i ρ=some (TD T,ρ)):sR 1 [] (iL (cV i)) (gN 0) (cT (c2 (dEq false) (c1 (sU tT "kind") aa) ig)) (c1 (sU sZ "name") aa) ρ=some ((rmN T).map D.str,ρ):=by
 have hs:iL (cV i) ρ=some (T.map thD,ρ):=by unfold iL;rw[hi]
 have:=wV (k:=1) (cap:=[]) (g:=gN 0) (ft:=cT (c2 (dEq false) (c1 (sU tT "kind") aa) ig)) (fe:=c1 (sU sZ "name") aa) thD (λt=>D.str t.n) (λt=>decide (t.k=.room)) T hs hl λt _=>⟨[.im (thD t)],[.im (thD t)],rfl,tN (se (tQ rfl (BY t)) rfl (F5 t.k .room)),λ_=>⟨_,tQ rfl (yW t),rfl⟩,λ_=>rfl⟩
 rw[this];unfold rmN;rw[aZ];rfl
theorem LC(T:List Th)(hl:T.length<=1000)(hi:cV i ρ=some (TD T,ρ)):sR 1 [] (iL (cV i)) (gN 0) (cT (tS uL "can_hold" aa sI)) (c1 (sU sZ "name") aa) ρ=some ((hdN T).map D.str,ρ):=by
 have hs:iL (cV i) ρ=some (T.map thD,ρ):=by unfold iL;rw[hi]
 have:=wV (k:=1) (cap:=[]) (g:=gN 0) (ft:=cT (tS uL "can_hold" aa sI)) (fe:=c1 (sU sZ "name") aa) thD (λt=>D.str t.n) (λt=>t.k.hd) T hs hl λt _=>⟨[.im (thD t)],[.im (thD t)],rfl,tN (uh (xs:=[.str t.n,.tup (t.w.map D.str),.str t.k.s,oS t.s]) (ys:=[]) rfl rfl rfl rfl (TV t)),λ_=>⟨_,tQ rfl (yW t),rfl⟩,λ_=>rfl⟩
 rw[this];unfold hdN;rw[aZ];rfl
theorem zk{x:Str}{l:aF}(h:x∈l):tZ [.str x,.lst (l.map D.str)]=some (.bl true):=by refine sv (ρ:=[.im (.str x),.im (.lst (l.map D.str))]) rfl ?_;refine sH ((tM rfl).trans (se rfl rfl ?_));rw[uK];simp[h]
theorem GF(dk rm:aF)(hl:dk.length<=1000)(nd:dk.Nodup)(h:∀x∈dk,x∈rm):zM [.lst (dk.map D.str),.lst (rm.map D.str)]=some .non:=by let ρ0:bg:=[.im (.lst (dk.map D.str)),.im (.lst (rm.map D.str)),.un];let ρ:bg:=[.im (.lst (dk.map D.str)),.im (.lst (rm.map D.str)),.im (.bl true)];refine zH (ρ:=ρ) rfl ?_;unfold zL;rw[rX (show _=some (Out.nx ρ) from(sE ((tM (ρ1:=ρ0) rfl).trans ((tM (yx D.str dk (ρ1:=ρ0) rfl hl λx hx=>⟨[.im (.str x),.im (.lst (rm.map D.str))],[.im (.str x),.im (.lst (rm.map D.str))],rfl,rZ rfl (zk (h x hx)),rfl⟩)).trans (rZ (ρ1:=ρ0) rfl (F7 nd hl))))).trans rfl)];exact uR (ρ1:=ρ) rfl
def I0(T:List Th)(t:Th):Prop:=match t.k,t.s with
 |.room,none=>True
 |.room,some _=>False
 |_,none=>False
 |.you,some x=>x∈rmN T
 |_,some x=>x∈hdN T
abbrev eM:=(cC (.str "you"))
theorem Kn(T:List Th)(hl:T.length<=1000)(t:Th)(h:I0 T t):BW [TD T,thD t]=some (.bl true):=by
 refine sv (ρ:=[.im (TD T),.im (thD t)]) rfl ?_;unfold BV;obtain⟨n,w,k,s⟩:=t;have els:∀k:Kd,k≠.room->k≠.you->∀x,x∈hdN T->(r6 (sIf (cT (c2 (dEq false) (c1 (sU tT "kind") af) ig)) (sy (c2 BJ (c1 (sU uA "start") af) bt)) sF)
   (r6 (sIf (cT (c2 (dEq false) (c1 (sU tT "kind") af) eM)) (sy (r9 tZ (rV (c1 (sU uA "start") af) (rV (cL (sR 1 [] (iL aa) (gN 0) (cT (c2 (dEq false) (c1 (sU tT "kind") aa) ig)) (c1 (sU sZ "name") aa))) sI)))) sF)
   (sy (r9 tZ (rV (c1 (sU uA "start") af) (rV (cL (sR 1 [] (iL aa) (gN 0) (cT (tS uL "can_hold" aa sI)) (c1 (sU sZ "name") aa))) sI)))))) [.im (TD T),.im (thD ⟨n,w,k,some x⟩)]=some (.rt (.bl true) [.im (TD T),.im (thD ⟨n,w,k,some x⟩)]):=λk h1 h2 x hx=>by
  let ρ:bg:=[.im (TD T),.im (thD ⟨n,w,k,some x⟩)];rw[rX (show _=some (Out.nx ρ) from(sf (ρ':=ρ) (tN (se (ρ1:=ρ) (ρ2:=ρ) (tQ rfl (BY _)) rfl ((F5 k .room).trans (by rw[aO h1]))))).trans rfl)];rw[rX (show _=some (Out.nx ρ) from(sf (ρ':=ρ) (tN (se (ρ1:=ρ) (ρ2:=ρ) (tQ rfl (BY _)) rfl ((F5 k .you).trans (by rw[aO h2]))))).trans rfl)];exact sH (rZ (rW (tQ rfl (IW _)) (rW (tJ (LC T hl rfl)) rfl)) (zk hx))
 cases k with
 |room=>
  cases s with
  |none=>rfl
  |some x=>exact h.elim
 |you=>
  cases s with
  |none=>exact h.elim
  |some x=>let ρ:bg:=[.im (TD T),.im (thD ⟨n,w,.you,some x⟩)];rw[rX (show _=some (Out.nx ρ) from rfl)];refine sJ ((sP (ρ':=ρ) rfl).trans ?_);exact sH (rZ (rW (tQ rfl (IW _)) (rW (tJ (Km T hl rfl)) rfl)) (zk h))
 |plain=>cases s with
  |none=>exact h.elim
  |some x=>exact els .plain (by decide) (by decide) x h
 |fixed=>cases s with
  |none=>exact h.elim
  |some x=>exact els .fixed (by decide) (by decide) x h
 |box=>cases s with
  |none=>exact h.elim
  |some x=>exact els .box (by decide) (by decide) x h
 |lamp=>cases s with
  |none=>exact h.elim
  |some x=>exact els .lamp (by decide) (by decide) x h
def kS(x:Str):Key:=Sum.inr x
theorem AZ(h1:fv ρ=some (d,ρ))(h2:ρ[i]?=some (.dk ks ds))(h3:fk ρ=some (.str x,ρ))(hn:kS x∉ks)(hl:ks.length<1000)(he:ds.length=ks.length):
  tW i fk fv ρ=some (.nx (ρ.set i (.dk (ks++[kS x]) (ds++[d])))):=by
 have hk:Fo ks (kS x)=false:=by unfold Fo;rw[iR];intro z;obtain⟨y,hy,ey⟩:=fQ.mp z;exact hn (by rw[<-bu ey];exact hy)
 unfold tW;rw[h1];simp only[h2,h3];rw[show Au (.str x)=some (kS x) from rfl];simp only;rw[aj hl,aj he,hk];rfl
section
variable{α:Type}{g:FG}{i:Nat}{fk fv:FE}
theorem zl(dd:α->L4.D)(kf:α->Str)(vf:α->L4.D)(st:List Key->List L4.D->Sl->bg)
  (hs:∀(a:α) (ks:List Key) (ds:List L4.D) (s:Sl),∃ρ1,g (dd a) (st ks ds s)=some ρ1/\fv ρ1=some (vf a,ρ1)/\ρ1[i]?=some (.dk ks ds)/\fk ρ1=some (.str (kf a),ρ1)/\∀ks' ds',∃s',ρ1.set i (.dk ks' ds')=st ks' ds' s'):
  ∀(l:List α) (ks:List Key) (ds:List L4.D) (s:Sl),(ks++l.map λa=>kS (kf a)).Nodup->ks.length+l.length<=1000->ds.length=ks.length->
   ∃s',forL g (tW i fk fv) (l.map dd) (st ks ds s)=some (.nx (st (ks++l.map λa=>kS (kf a)) (ds++l.map vf) s'))
 |[],ks,ds,s,_,_,_=>⟨s,by rw[bL,bL,bL,bz,bz];rfl⟩
 |a::l,ks,ds,s,nd,hl,he=>by
  obtain⟨ρ1,h1,h2,h3,h4,h5⟩:=hs a ks ds s;obtain⟨s1,h6⟩:=h5 (ks++[kS (kf a)]) (ds++[vf a]);rw[aH]at hl;have nd':((ks++[kS (kf a)])++l.map λa=>kS (kf a)).Nodup:=by rw[bE];exact nd
  have hn:kS (kf a)∉ks:=λz=>by rw[cc]at nd;exact nd.2.2 _ z _ (by rw[az];exact aY) rfl
  obtain⟨s',h7⟩:=zl dd kf vf st hs l (ks++[kS (kf a)]) (ds++[vf a]) s1 nd' (by rw[aC,bh];omega) (by rw[aC,aC,he,bh,bh]);refine⟨s',?_⟩;rw[az];unfold forL;rw[h1];simp only[AZ h2 h3 h4 hn (by omega) he,h6];rw[h7,az,az,bE,bE];rfl
end
def nK(T:List Th):List Key:=T.map λt=>kS t.n
theorem F9(h:kS a=kS b):a=b:=ji h
theorem MJ{T:List Th}(h:(T.map Th.n).Nodup):(nK T).Nodup:=by have:=w9 h;rw[aZ]at this;exact this
theorem MK{T:List Th}(h:(T.map Th.n).Nodup)(vf:Th->L4.D)(ht:t∈T):uG (nK T) (T.map vf) (kS t.n)=some (vf t):=by refine AA (MJ h) ?_;unfold nK;rw[jf];exact cA (f:=λt=>(kS t.n,vf t)) ht
def LD(T:List Th)(r:Str->Nat):Prop:=∀t∈T,r t.n<T.length/\∀p,t.s=some p->r p<r t.n/\∃u∈T,u.n=p
def stD(T:List Th):L4.D:=.dic (nK T) (T.map λt=>oS t.s)
theorem QH(T:List Th)(hl:T.length<=1000)(nd:(T.map Th.n).Nodup)(r:Str->Nat)(hr:LD T r)(t:Th)(ht:t∈T):xD [stD T,.str t.n]=some (.bl true):=by
 have loop:∀(m:Nat) (l:List L4.D),l.length=m->∀(a:Option Str) (s:Sl),(∀x,a=some x->(∃u∈T,u.n=x)/\r x<m)->
   (∃ρ,forL (gN 3) (r6 (sIf (cT (c2 BJ ar bt)) (sy cF) sF) (sO 2 (c2 tq aa ar))) l [.im (stD T),.im (.str t.n),.im (oS a),s]=some (.rt (.bl true) ρ))\/
   (∃s',forL (gN 3) (r6 (sIf (cT (c2 BJ ar bt)) (sy cF) sF) (sO 2 (c2 tq aa ar))) l [.im (stD T),.im (.str t.n),.im (oS a),s]=some (.nx [.im (stD T),.im (.str t.n),.im .non,s'])):=by
  intro m
  induction m with
  |zero=>
   intro l h a s ha;cases l with
   |cons d l=>cases h
   |nil=>
    cases a with
    |none=>exact .inr ⟨s,rfl⟩
    |some x=>exact au (ha x rfl).2 (oi _)
  |succ m ih=>
   intro l h a s ha;cases l with
   |nil=>cases h
   |cons d l=>
    cases a with
    |none=>refine .inl ⟨[.im (stD T),.im (.str t.n),.im .non,.im d],?_⟩;unfold forL;rw[show gN 3 d [.im (stD T),.im (.str t.n),.im (oS none),s]=some [.im (stD T),.im (.str t.n),.im .non,.im d] from rfl];rfl
    |some x=>
     obtain⟨⟨u,hu,rfl⟩,hx⟩:=ha x rfl;have e:r6 (sIf (cT (c2 BJ ar bt)) (sy cF) sF) (sO 2 (c2 tq aa ar)) [.im (stD T),.im (.str t.n),.im (.str u.n),.im d]=some (.nx [.im (stD T),.im (.str t.n),.im (oS u.s),.im d]):=by refine(rX (ρ':=[.im (stD T),.im (.str t.n),.im (.str u.n),.im d]) rfl).trans ?_;exact(sE (se rfl rfl (MK nd (λt=>oS t.s) hu))).trans rfl
     have key:=ih l (by simpa using h) u.s (.im d) λy hy=>by obtain⟨h1,h2⟩:=hr u hu;obtain⟨h3,h4⟩:=h2 y hy;exact⟨h4,by omega⟩
     unfold forL;rw[show gN 3 d [.im (stD T),.im (.str t.n),.im (oS (some u.n)),s]=some [.im (stD T),.im (.str t.n),.im (.str u.n),.im d] from rfl];simp only[e];exact key
 obtain⟨h1,h2⟩:=hr t ht;have l0:=loop T.length (Fi 0 T.length) (by unfold Fi;simp) t.s .un λx hx=>⟨(h2 x hx).2,by have:=(h2 x hx).1;omega⟩;have e0:sO 2 (c2 tq aa af) [.im (stD T),.im (.str t.n),.un,.un]=some (.nx [.im (stD T),.im (.str t.n),.im (oS t.s),.un]):=(sE (se rfl rfl (MK nd (λt=>oS t.s) ht))).trans rfl;have e1:iR1 (c1 uw aa) [.im (stD T),.im (.str t.n),.im (oS t.s),.un]=some (Fi 0 T.length,[.im (stD T),.im (.str t.n),.im (oS t.s),.un]):=by unfold iR1;rw[show c1 uw aa [.im (stD T),.im (.str t.n),.im (oS t.s),.un]=some (.int T.length,[.im (stD T),.im (.str t.n),.im (oS t.s),.un]) from tQ rfl (by show some (D.int _)=_;unfold nK;rw[ah])];simp only;rw[aj (by omega),iP]
 rcases l0 with ⟨ρ,q⟩|⟨s',q⟩
 ·refine sv (ρ:=ρ) rfl ?_;refine(rX e0).trans (sJ ((ug e1).trans q))
 ·refine sv (ρ:=[.im (stD T),.im (.str t.n),.im .non,s']) rfl ?_;refine(rX e0).trans ((rX ((ug e1).trans q)).trans rfl)
theorem ED(T:List Th)(hl:T.length<=900)(nd:(T.map Th.n).Nodup)(r:Str->Nat)(hr:LD T r)(hs:∀t∈T,I0 T t):yt [TD T]=some .non:=by
 obtain⟨s',e1⟩:=zl (g:=gN 2) (i:=1) (fk:=c1 (sU sZ "name") ar) (fv:=c1 (sU uA "start") ar) thD Th.n (λt=>oS t.s) (λks ds s=>[.im (TD T),.dk ks ds,s])
  (λt ks ds s=>⟨[.im (TD T),.dk ks ds,.im (thD t)],rfl,tQ rfl (IW t),rfl,tQ rfl (yW t),λks' ds'=>⟨_,rfl⟩⟩) T [] [] .un (by rw[bP];exact MJ nd) (by simp;omega) rfl
 refine zH (ρ:=[.im (TD T),.im (stD T),s']) rfl ?_;unfold yq;refine(rX (uR (ρ1:=[.im (TD T),.un,.un]) (yx thD T rfl (by omega) λt ht=>⟨[.im (thD t),.im (TD T)],[.im (thD t),.im (TD T)],rfl,rZ rfl (Kn T (by omega) t (hs t ht)),rfl⟩))).trans ?_;refine(rX (ρ':=[.im (TD T),.dk [] [],.un]) rfl).trans ?_;refine(rX ((ug rfl).trans e1)).trans ?_;have src:iD (cFz 1) [.im (TD T),.dk ([]++T.map λa=>kS a.n) ([]++T.map λt=>oS t.s),s']=some ((T.map λt=>D.str t.n),[.im (TD T),.im (stD T),s']):=by rw[bP,bP];unfold iD;rw[show cFz 1 [.im (TD T),.dk (T.map λa=>kS a.n) (T.map λt=>oS t.s),s']=some (stD T,[.im (TD T),.im (stD T),s']) from rfl];show (if (nK T).length=(T.map λt=>oS t.s).length then some ((nK T).map Lk,_)else none)=_;unfold nK;rw[aj (by rw[ah,ah]),aZ];rfl
 exact uR (ρ1:=[.im (TD T),.im (stD T),s']) (yx (λt:Th=>D.str t.n) T src (by omega) λt ht=>⟨[.im (.str t.n),.im (stD T)],[.im (.str t.n),.im (stD T)],rfl,rZ rfl (QH T (by omega) nd r hr t ht),rfl⟩)
def HK:List aF:=[[],["red"],["old", "red"]]
def vv(t:Th):Prop:=Nm t.n/\∃m∈HK,t.w=t.n::m
theorem wu(h:vv t):t.w=[t.n]\/t.w=[t.n,"red"]\/t.w=[t.n,"old", "red"]:=by
 obtain⟨_,m,hm,e⟩:=h;unfold HK at hm;simp only[aN,bU,or_false]at hm;rcases hm with rfl|rfl|rfl
 ·exact .inl e
 ·exact .inr (.inl e)
 ·exact .inr (.inr e)
theorem DE(h:vv t)(hx:x∈t.w):x=t.n\/x="red" \/ x="old" := by
 rcases wu h with e|e|e<;>rw[e]at hx<;>simp only[aN,bU,or_false]at hx
 ·exact .inl hx
 ·rcases hx with h|h
  ·exact .inl h
  ·exact .inr (.inl h)
 ·rcases hx with h|h|h
  ·exact .inl h
  ·exact .inr (.inr h)
  ·exact .inr (.inl h)
theorem UQ(h:Nm x):x≠"red" /\ x≠"old" := by have:=QG h;exact⟨λz=>this (by rw[z];decide),λz=>this (by rw[z];decide)⟩
theorem Ja(h:vv t):AK [.tup (t.w.map D.str)]=some (.bl true):=by
 have hn:=h.1;obtain⟨n1,n2⟩:=UQ hn;have len:1<=t.w.length/\t.w.length<=4:=by rcases wu h with e|e|e<;>rw[e]<;>simp
 have nd:t.w.Nodup:=by
  rcases wu h with e|e|e<;>rw[e]
  ·simp
  ·simp[n1]
  ·simp[n1,n2];decide
 let ρ:bg:=[.im (.tup (t.w.map D.str))];refine sv (ρ:=ρ) rfl ?_;unfold AJ;have e1:v8 yM yM aD (c1 uw aa) (cC zI) ρ=some (.bl true,ρ):=CS (x:=1) (y:=t.w.length) (z:=4) rfl (tQ rfl (by show some (D.int _)=_;rw[ah])) rfl (by omega) (by omega);refine(rX (ρ':=ρ) ((sf (ρ':=ρ) (zA (ρ1:=ρ) rfl (Cf (tN e1)))).trans rfl)).trans ?_;refine sH ((tM (yx D.str t.w (ρ1:=ρ) rfl (by omega) λx hx=>⟨_,_,rfl,rZ rfl ?_,rfl⟩)).trans (rZ rfl (LB nd (by omega))));rcases DE h hx with rfl|rfl|rfl
 ·exact LA hn
 ·exact Kk
 ·exact Kl
theorem LF(t u:Th)(ht:vv t)(hu:vv u)(hne:u.n≠t.n):Bd [.tup (u.w.map D.str),.tup (t.w.map D.str)]=some (.bl false):=by
 obtain⟨n1,n2⟩:=UQ ht.1;have hl:t.w.length<=1000:=by rcases wu ht with e|e|e<;>rw[e]<;>simp
 let ρ:bg:=[.im (.tup (u.w.map D.str)),.im (.tup (t.w.map D.str))];refine sv (ρ:=ρ) rfl ?_;refine sH (tQ (tJ (Ah D.str (λx=>.bl (decide (x∈u.w))) t.w (ρ1:=ρ) rfl hl λx _=>⟨_,_,rfl,se rfl rfl (J4 false x u.w),rfl⟩)) ?_);rw[MB];have:t.w.all (λx=>decide (x∈u.w))=false:=by
  rw[iR];intro z;have:=bu (bJ.mp z t.n (by rcases wu ht with e|e|e<;>rw[e]<;>simp));rcases DE hu this with h|h|h
  ·exact hne h.symm
  ·exact n1 h
  ·exact n2 h
 rw[this]
theorem GH(P:List Th)(hl:P.length<=900)(hw:∀t∈P,vv t)(t:Th)(ht:vv t):xF [TD P,thD t]=some (.bl true):=by
 let O:=P.filter λu=>!decide (u.n=t.n);let ρ:bg:=[.im (TD P),.im (thD t),.im (TD O)];have hO:O.length<=900:=bQ (eV _ _) hl;refine sv (ρ:=ρ) rfl ?_;unfold xE;refine(rX (ρ':=ρ) ((sE (tJ (wV thD thD (λu=>!decide (u.n=t.n)) P (ρ1:=[.im (TD P),.im (thD t),.un]) rfl (by omega) λu _=>⟨[.im (thD u),.im (thD t)],[.im (thD u),.im (thD t)],rfl,tN (se (tQ rfl (yW u)) (tQ rfl (yW t)) (vP true u.n t.n)),λ_=>⟨_,rfl,rfl⟩,λ_=>rfl⟩))).trans rfl)).trans ?_;have e:c1 EA (cL (sR 1 [1] (iL ar) (gN 0) ua (r9 Bd (rV (c1 (sU vd "words") aa) (rV (c1 (sU vd "words") af) sI))))) ρ=some (.bl false,ρ):=
  QE thD O rfl (by omega) λu hu=>⟨[.im (thD u),.im (thD t)],[.im (thD u),.im (thD t)],rfl,rZ (rW (tQ rfl (IV u)) (rW (tQ rfl (IV t)) rfl)) (LF t u ht (hw u (bO.mp hu).1) (by simpa using (bO.mp hu).2)),rfl⟩
 refine sH ?_;unfold Dd;rw[e];rfl
theorem Ga(T:List Th)(hl:T.length<=900)(hw:∀t∈T,vv t):uP [TD T]=some .non:=by let P:=T.filter λt=>t.k.pl;have hP:P.length<=900:=bQ (eV _ _) hl;have hwP:∀t∈P,vv t:=λt ht=>hw t (bO.mp ht).1;let ρ:bg:=[.im (TD T),.im (TD P)];refine zH (ρ:=ρ) rfl ?_;unfold uO;refine(rX (uR (ρ1:=[.im (TD T),.un]) (yx thD T rfl (by omega) λt ht=>⟨[.im (thD t)],[.im (thD t)],rfl,rZ (rW (tQ rfl (IV t)) rfl) (Ja (hw t ht)),rfl⟩))).trans ?_;refine(rX (ρ':=ρ) ((sE (tJ (rZ rfl (yX T (by omega))))).trans rfl)).trans ?_;exact uR (ρ1:=ρ) (yx thD P rfl (by omega) λt ht=>⟨[.im (thD t),.im (TD P)],[.im (thD t),.im (TD P)],rfl,rZ rfl (GH P hP hwP t (hwP t ht)),rfl⟩)
def BC(n f:Str)(j:L4.D):L4.D:=.obj 2 ["name", "others", "form", "joining"] [.str n,.tup [],.str f,j]
def t8:List L4.D:=[BC "take" "one" .non,BC "drop" "one" .non,BC "open" "one" .non,BC "shut" "one" .non,BC "light" "one" .non,BC "douse" "one" .non,BC "put" "two" (.str "in"),BC "go" "way" .non,BC "wait" "alone" .non]
theorem Ko:uQ []=some t8:=by kernel_rfl
def vN:aF:=["take", "drop", "open", "shut", "light", "douse", "put", "go", "wait"]
def vI:aF:=["take", "drop", "open", "shut", "light", "douse", "put", "go", "wait", "in", "north", "up"]
theorem TY(h:e ρ=some (.bl b,ρ1)):Dd e ρ=some (.bl !b,ρ1):=by unfold Dd;rw[h]
theorem QI{l m:aF}(hd:d=.lst (m.map D.str)\/d=.tup (m.map D.str))(hl:l.length<=900)(h:∀x∈l,x∉m):xy [.lst (l.map D.str),d]=some (.bl true):=by
 let ρ:bg:=[.im (.lst (l.map D.str)),.im d];refine sv (ρ:=ρ) rfl ?_;have e:c1 EA (cL (sR 1 [1] (iL aa) (gN 0) ua (c2 (dIn false) aa af))) ρ=some (.bl false,ρ):=QE D.str l rfl (by omega) λx hx=>⟨[.im (.str x),.im d],[.im (.str x),.im d],rfl,se rfl rfl (by
  rcases hd with rfl|rfl
  ·rw[uK];simp[h x hx]
  ·rw[J4];simp[h x hx]),rfl⟩
 exact sH (TY e)
theorem Og(h:vv t):t.w.length<=3:=by rcases wu h with e|e|e<;>rw[e]<;>simp
theorem Gb:∀(P:List Th) (acc:aF) (s:Sl),acc.length+3 * P.length<=900->(∀t∈P,vv t)->
  ∃s',forL (gN 4) (sY (DQ 3 (c1 (sU vd "words") aw))) (P.map thD) [a,b,c,.ls (acc.map D.str),s,s5,s6,s7]=some (.nx [a,b,c,.ls ((acc++P.flatMap Th.w).map D.str),s',s5,s6,s7])
 |[],acc,s,_,_=>⟨s,by simp;rfl⟩
 |t::P,acc,s,hl,hw=>by
  have h3:=Og (hw t aY);rw[aH]at hl;obtain⟨s',e⟩:=Gb P (acc++t.w) (.im (thD t)) (by rw[aC];omega) λu hu=>hw u (bo _ hu);refine⟨s',?_⟩;rw[az];unfold forL;have e1:sY (DQ 3 (c1 (sU vd "words") aw)) [a,b,c,.ls (acc.map D.str),.im (thD t),s5,s6,s7]=some (.nx [a,b,c,.ls ((acc++t.w).map D.str),.im (thD t),s5,s6,s7]):=by refine(tV (d:=.non) (ρ':=[a,b,c,.ls ((acc++t.w).map D.str),.im (thD t),s5,s6,s7]) ?_);unfold DQ;show (if (acc.map D.str).length+(t.w.map D.str).length<=1000 then some (D.non,[a,b,c,.ls (acc.map D.str++t.w.map D.str),.im (thD t),s5,s6,s7])else none)=_;rw[aj (by rw[ah,ah];omega),bj]
  rw[show gN 4 (thD t) [a,b,c,.ls (acc.map D.str),s,s5,s6,s7]=some [a,b,c,.ls (acc.map D.str),.im (thD t),s5,s6,s7] from rfl];simp only[e1];rw[e,List.flatMap_cons,bE]
def wyD(r0 r1:Str):List L4.D:=[.tup [.str r0,.str "north", .str r1,.non],.tup [.str r0,.str "up", .str r0,.non]]
def wyT(T:List Th):List L4.D:=wyD ((rmN T).headD "") ((rmN T).getLastD "")
theorem Yy{T:List Th}(h:1<=(T.filter λt=>decide (t.k=.room)).length):(rmN T).headD "" ∈ rmN T:=by
 have:1<=(rmN T).length:=by unfold rmN;rw[ah];exact h
 cases e:rmN T with
 |nil=>rw[e]at this;cases this
 |cons a r=>exact aY ..
theorem Yz{T:List Th}(h:1<=(T.filter λt=>decide (t.k=.room)).length):(rmN T).getLastD "" ∈ rmN T:=by
 have:1<=(rmN T).length:=by unfold rmN;rw[ah];exact h
 have hn:rmN T≠[]:=λe=>by rw[e]at this;cases this
 rw[ml,List.getLast?_eq_some_getLast hn];exact List.getLast_mem hn
theorem LG(r0:Str):ui [.lst [.tup [.str r0,.str "north"],.tup [.str r0,.str "up"]]]=some (.bl true):=by refine sv (ρ:=[.im (.lst [.tup [.str r0,.str "north"],.tup [.str r0,.str "up"]])]) rfl (sH (se (x:=.int 2) (y:=.int 2) (tQ rfl ?_) rfl rfl));show (if ([Sum.inr r0,Sum.inr "north"]:List Key)=[Sum.inr r0,Sum.inr "up"]then none else some (D.int 2))=_;rw[ao λe=>au (ji (kB (kB e).2).1) (by decide:¬(("north" : Str)="up"))]
theorem Oh{a b x:Str}{R:aF}{mn:List L4.D}(h0:a∈R)(h1:b∈R)(hx:we [.str x]=some (.bl true)):FZ [.tup [.str a,.str x,.str b,.non],.lst (R.map D.str),.lst mn]=some (.bl true):=by let ρ:bg:=[.im (.tup [.str a,.str x,.str b,.non]),.im (.lst (R.map D.str)),.im (.lst mn),.im (.bl true)];refine sv (ρ:=ρ) rfl ?_;unfold FY;refine(rX (ρ':=[.im (.tup [.str a,.str x,.str b,.non]),.im (.lst (R.map D.str)),.im (.lst mn),.un]) rfl).trans ?_;refine(rX (ρ':=ρ) rfl).trans ?_;exact sH ((tM (rZ (ρ1:=ρ) rfl (zk h0))).trans ((tM (rZ (ρ1:=ρ) rfl hx)).trans ((tM (rZ (ρ1:=ρ) rfl (zk h1))).trans rfl)))
theorem GI(R:aF)(mn:List L4.D)(h0:r0∈R)(h1:r1∈R):xO [.lst (wyD r0 r1),.lst (R.map D.str),.lst mn]=some .non:=by
 let ρ0:bg:=[.im (.lst (wyD r0 r1)),.im (.lst (R.map D.str)),.im (.lst mn),.un];let ρ:bg:=[.im (.lst (wyD r0 r1)),.im (.lst (R.map D.str)),.im (.lst mn),.im (.bl true)];refine zH (ρ:=ρ) rfl ?_;unfold zN;rw[rX (show _=some (Out.nx ρ) from(sE ((tM (ρ1:=ρ0) rfl).trans (yx (λz:Str×Str=>D.tup [.str r0,.str z.1,.str z.2,.non]) [("north", r1),("up", r0)] (ρ1:=ρ0) rfl (bT rfl) λz hz=>
  ⟨[.im (.tup [.str r0,.str z.1,.str z.2,.non]),.im (.lst (R.map D.str)),.im (.lst mn)],[.im (.tup [.str r0,.str z.1,.str z.2,.non]),.im (.lst (R.map D.str)),.im (.lst mn)],rfl,rZ rfl (Oh h0 (by
   rcases aN.mp hz with rfl|hz
   ·exact h1
   ·rw[aR.mp hz];exact h0) (by
   rcases aN.mp hz with rfl|hz
   ·kernel_rfl
   ·rw[aR.mp hz];kernel_rfl)),rfl⟩))).trans rfl)]
 refine(rX (uR (ρ1:=ρ) rfl)).trans ?_;exact uR (ρ1:=ρ) (rZ (ds:=[.lst [.tup [.str r0,.str "north"],.tup [.str r0,.str "up"]]]) (rW (by kernel_rfl) rfl) (LG r0))
theorem Gc(T:List Th)(hl:T.length<=200)(hw:∀t∈T,vv t):uZ [TD T,.lst (wyT T),.lst t8]=some .non:=by
 let P:=T.filter λt=>t.k.pl;have hP:P.length<=200:=bQ (eV _ _) hl;have hwP:∀t∈P,vv t:=λt ht=>hw t (bO.mp ht).1;obtain⟨s',e1⟩:=Gb (a:=.im (TD T)) (b:=.im (.lst (wyT T))) (c:=.im (.lst t8)) (s5:=.un) (s6:=.un) (s7:=.un) P [] .un (by simp;omega) hwP;let O:=P.flatMap Th.w;let m1:Sl:=.ls (O.map D.str);let z:Sl:=.im (BC "wait" "alone" .non);refine zH (ρ:=[.im (TD T),.im (.lst (wyT T)),.im (.lst t8),.im (.lst (O.map D.str)),s',.im (.lst (vN.map D.str)),z,.im (.lst [.str "in", .str "north", .str "up"])]) rfl ?_;unfold wb;refine(rX (ρ':=[.im (TD T),.im (.lst (wyT T)),.im (.lst t8),.ls [],.un,.un,.un,.un]) rfl).trans ?_;refine(rX (ρ':=[.im (TD T),.im (.lst (wyT T)),.im (.lst t8),m1,s',.un,.un,.un]) ((ug (ds:=P.map thD) (ρ1:=[.im (TD T),.im (.lst (wyT T)),.im (.lst t8),.ls [],.un,.un,.un,.un]) ?_).trans e1)).trans ?_
 ·unfold iL;rw[tJ (rZ (g:=vR) (ds:=[TD T]) (ρ1:=[.im (TD T),.im (.lst (wyT T)),.im (.lst t8),.ls [],.un,.un,.un,.un]) rfl (yX T (by omega)))]
 refine(rX (ρ':=[.im (TD T),.im (.lst (wyT T)),.im (.lst t8),m1,s',.ls [],.un,.un]) rfl).trans ?_;refine(rX (ρ':=[.im (TD T),.im (.lst (wyT T)),.im (.lst t8),m1,s',.ls (vN.map D.str),z,.un]) (by kernel_rfl)).trans ?_;refine(rX (ρ':=[.im (TD T),.im (.lst (wyT T)),.im (.lst t8),m1,s',.ls (vN.map D.str),z,.im (.lst [.str "in", .str "north", .str "up"])]) (by kernel_rfl)).trans ?_;refine(rX (uR (ρ1:=[.im (TD T),.im (.lst (wyT T)),.im (.lst t8),m1,s',.im (.lst (vN.map D.str)),z,.im (.lst [.str "in", .str "north", .str "up"])]) (by kernel_rfl))).trans ?_;have no:∀x∈vI,x∉O:=λx hx ho=>by
  obtain⟨t,ht,hxt⟩:=List.mem_flatMap.mp ho;have hn:=(hwP t ht).1;rcases DE (hwP t ht) hxt with rfl|rfl|rfl
  ·have sub:∀x∈vI,x∈(["red", "old", "take", "drop", "open", "shut", "light", "douse", "put", "go", "wait", "in", "north", "up", "the", "a", "undo", "restart"]:aF):=by decide
   exact QG hn (sub _ hx)
  ·exact au hx (by decide)
  ·exact au hx (by decide)
 have a1:=QI (l:=vI) (m:=O) (.inl rfl) (by decide) no;refine(rX (uR (ρ1:=[.im (TD T),.im (.lst (wyT T)),.im (.lst t8),.im (.lst (O.map D.str)),s',.im (.lst (vN.map D.str)),z,.im (.lst [.str "in", .str "north", .str "up"])]) (rZ (rW (d:=.lst (vI.map D.str)) (ρ1:=[.im (TD T),.im (.lst (wyT T)),.im (.lst t8),m1,s',.im (.lst (vN.map D.str)),z,.im (.lst [.str "in", .str "north", .str "up"])]) (by kernel_rfl) (rW rfl rfl)) a1))).trans ?_;refine(rX (uR (ρ1:=[.im (TD T),.im (.lst (wyT T)),.im (.lst t8),.im (.lst (O.map D.str)),s',.im (.lst (vN.map D.str)),z,.im (.lst [.str "in", .str "north", .str "up"])]) (by kernel_rfl))).trans ?_;exact uR (by kernel_rfl)
structure Good(T:List Th)(M:List Mk)(dk:aF):Prop where
 len:T.length<=200
 r1:1<=(T.filter λt=>decide (t.k=.room)).length
 r5:(T.filter λt=>decide (t.k=.room)).length<=5
 y1:(T.filter λt=>decide (t.k=.you)).length=1
 p7:(T.filter λt=>t.k.pl).length<=7
 m4:M.length<=4
 mo:∀m∈M,m.ok
 nm:∀x∈T.map Th.n++M.map Mk.n,Nm x
 nd:(T.map Th.n++M.map Mk.n).Nodup
 st:∀t∈T,I0 T t
 rk:∃r,LD T r
 wd:∀t∈T,vv t
 d0:dk.length<=5
 d1:dk.Nodup
 d2:∀x∈dk,x∈rmN T
theorem Good.ndT(g:Good T M dk):(T.map Th.n).Nodup:=(cc.mp g.nd).1
theorem GK(T:List Th)(M:List Mk)(hl:T.length<=200)(hM:M.length<=4):∃l,xN [TD T,MD M]=some l:=by
 let ρ:bg:=[.im (TD T),.im (MD M)];refine⟨_,zC (ρ:=ρ) rfl (zz (wZ (tJ (wV thD (λt=>D.str t.n) (λt=>t.k.mk) T (ρ1:=ρ) rfl (by omega) λt _=>⟨[.im (thD t)],[.im (thD t)],rfl,tN (uh (xs:=[.str t.n,.tup (t.w.map D.str),.str t.k.s,oS t.s]) (ys:=[]) rfl rfl rfl rfl (MI t)),λ_=>⟨_,tQ rfl (yW t),rfl⟩,λ_=>rfl⟩))
  (tJ (Ah mkD (λt=>D.str t.n) M rfl (by omega) λt _=>⟨_,_,rfl,tQ rfl (IY t),rfl⟩)) ?_))⟩
 have:=eV (λt:Th=>t.k.mk) T;rw[ah,ah];omega
theorem Gd(g:Good T M dk):yT [TD T,MD M,.lst (dk.map D.str),.lst (wyT T),.lst [],.lst t8]=some .non:=by
 have hl:=g.len;have hdk:dk.length<=1000:=by have:=g.d0;omega
 obtain⟨r,hr⟩:=g.rk;obtain⟨mn,emn⟩:=GK T M hl g.m4;let ρ0:bg:=[.im (TD T),.im (MD M),.im (.lst (dk.map D.str)),.im (.lst (wyT T)),.im (.lst []),.im (.lst t8),.un];let ρ:bg:=[.im (TD T),.im (MD M),.im (.lst (dk.map D.str)),.im (.lst (wyT T)),.im (.lst []),.im (.lst t8),.im (.lst ((rmN T).map D.str))];refine zH (ρ:=ρ) rfl ?_;unfold yS;refine(rX (tV (ρ':=ρ0) (rZ rfl (EC T (by omega) g.r1 g.r5 g.y1 g.p7)))).trans ?_;refine(rX (tV (ρ':=ρ0) (rZ rfl (F6 M g.m4 g.mo)))).trans ?_;refine(rX (tV (ρ':=ρ0) (rZ rfl (F8 T M (by omega) (by have:=g.m4;omega) g.nm g.nd)))).trans ?_;refine(rX (tV (ρ':=ρ0) (rZ rfl (ED T (by omega) g.ndT r hr g.st)))).trans ?_;refine(rX (tV (ρ':=ρ0) (rZ rfl (Ga T (by omega) g.wd)))).trans ?_;refine(rX (ρ':=ρ) ((sE (tJ (Km T (by omega) rfl))).trans rfl)).trans ?_;refine(rX (tV (ρ':=ρ) (rZ rfl (GF dk (rmN T) hdk g.d1 g.d2)))).trans ?_;have cw:xO [.lst (wyT T),.lst ((rmN T).map D.str),.lst mn]=some .non:=GI (rmN T) mn (Yy g.r1) (Yz g.r1);refine(rX (tV (ρ':=ρ) (rZ (rW rfl (rW rfl (rW (tJ (rZ (g:=xN) (ds:=[TD T,MD M]) rfl emn)) rfl))) cw))).trans ?_;refine(rX (tV (ρ':=ρ) (rZ (g:=yR) (ds:=[.lst []]) (r:=.non) rfl (by kernel_rfl)))).trans ?_;exact tV (ρ':=ρ) (rZ (g:=uZ) (ds:=[TD T,.lst (wyT T),.lst t8]) rfl (Gc T hl g.wd))
theorem LH(T:List Th)(hl:T.length<=900)(nd:(T.map Th.n).Nodup):DB [TD T]=some (.dic (nK T) (T.map thD)):=by
 obtain⟨s',e1⟩:=zl (g:=gN 2) (i:=1) (fk:=c1 (sU sZ "name") ar) (fv:=cV 2) thD Th.n thD (λks ds s=>[.im (TD T),.dk ks ds,s])
  (λt ks ds s=>⟨[.im (TD T),.dk ks ds,.im (thD t)],rfl,rfl,rfl,tQ rfl (yW t),λks' ds'=>⟨_,rfl⟩⟩) T [] [] .un (by rw[bP];exact MJ nd) (by simp;omega) rfl
 refine sv (ρ:=[.im (TD T),.im (.dic (nK T) (T.map thD)),s']) rfl ?_;unfold DA;refine(rX (ρ':=[.im (TD T),.dk [] [],.un]) rfl).trans ?_;refine(rX ((ug rfl).trans e1)).trans ?_;rw[bP,bP];rfl
theorem TZ(m:Mk):sU yf "most" (mkD m)=some (.int m.mo):=rfl
theorem Ge(T:List Th)(hl:T.length<=1000)(ns:aF)(rest:List L4.D)(k:Kd):xH [.obj 14 ("kept_things" ::ns) (TD T::rest),.str k.s]=some (.lst ((T.filter λt=>decide (t.k=k)).map λt=>D.str t.n)):=by let ρ:bg:=[.im (.obj 14 ("kept_things" ::ns) (TD T::rest)),.im (.str k.s)];refine WJ (ρ:=ρ) rfl ?_;exact zz (wV thD (λt=>D.str t.n) (λt=>decide (t.k=k)) T (ρ1:=ρ) rfl hl λt _=>⟨[.im (thD t),.im (.str k.s)],[.im (thD t),.im (.str k.s)],rfl,tN (se (tQ rfl (BY t)) rfl (F5 t.k k)),λ_=>⟨_,tQ rfl (yW t),rfl⟩,λ_=>rfl⟩)
def shD(T:List Th)(y:Str):List L4.D:=(vE [.str y,.lst (wyT T)]).getD []
theorem aat(T:List Th)(y:Str):vE [.str y,.lst (wyT T)]=some (shD T y):=by kernel_rfl
def vwD:L4.D:=(va [.lst t8]).getD .non
def rbD(T:List Th)(y:Str):L4.D:=(zg [.lst (shD T y)]).getD .non
def wNs:aF:=["kept_things", "kept_marks", "kept_dark", "kept_ways", "kept_verbs", "shared_verbs", "your_name", "things_by_name", "mosts_by_name", "verbs_by_word", "kept_rules", "shared_rules", "copied_rules", "rules_by_verb"]
def wDs(T:List Th)(M:List Mk)(dk:aF)(y:Str)(mo:L4.D):List L4.D:=[TD T,MD M,.lst (dk.map D.str),.lst (wyT T),.lst [],.lst t8,.str y,.dic (nK T) (T.map thD),mo,vwD,.lst [],.lst (shD T y),.lst [],rbD T y]
abbrev wR(T:List Th)(M:List Mk)(dk:aF)(ns:aF)(ds:List L4.D)(q:Sl):bg:=[.ob 14 ns ds,.im (TD T),.im (MD M),.im (.lst (dk.map D.str)),.im (.lst (wyT T)),.im (.lst []),.im (.lst []),q]
abbrev wL(T:List Th)(M:List Mk)(dk:aF)(ns:aF)(ds:List L4.D)(q:Sl):bg:=[.im (.obj 14 ns ds),.im (TD T),.im (MD M),.im (.lst (dk.map D.str)),.im (.lst (wyT T)),.im (.lst []),.im (.lst []),BM q]
section
variable{T:List Th}{M:List Mk}{dk:aF}
theorem w_fl(h1:e (wR T M dk ns ds q)=some (d,wR T M dk ns ds q))(h2:ns.contains nm=false)(h3:ds.length=ns.length)(h4:ns.length<900):tI 14 0 nm e (wR T M dk ns ds q)=some (.nx (wR T M dk (ns++[nm]) (ds++[d]) q)):=by unfold tI;rw[h1];show (if 14=14 then if ns.contains nm=true then none else if ds.length=ns.length then if ns.length<900 then some (Out.nx (wR T M dk (ns++[nm]) (ds++[d]) q))else none else none else none)=_;rw[aj rfl,h2,ao bA,aj h3,aj h4]
theorem QJ(h1:e (wL T M dk ns ds q)=some (d,r))(h2:noC 16 14 d=true):yD 16 e (wR T M dk ns ds q)=some (d,wR T M dk ns ds q):=by
 unfold yD;show (match e (wL T M dk ns ds q)with
  |some (d,_)=>if (decide (14<16)&&noC 16 14 d)=true then some (d,wR T M dk ns ds q)else none
  |none=>none)=_
 rw[h1];simp only[h2];rfl
abbrev d6(T:List Th)(M:List Mk)(dk:aF):List L4.D:=[TD T,MD M,.lst (dk.map D.str),.lst (wyT T),.lst [],.lst t8]
abbrev n6:aF:=["kept_things", "kept_marks", "kept_dark", "kept_ways", "kept_verbs", "shared_verbs"]
theorem aav(y:Str)(hl:T.length<=1000)(hy:(T.filter λt=>decide (t.k=.you)).map Th.n=[y]):yD 16 (c2 dIx (tS ve "of_kind" aa (rV eM sI)) aW) (wR T M dk n6 (d6 T M dk) .un)=some (.str y,wR T M dk n6 (d6 T M dk) .un):=by
 refine QJ (r:=wL T M dk n6 (d6 T M dk) .un) (se (uh (xs:=d6 T M dk) (ys:=[.str Kd.you.s]) (hh:=xH) rfl rfl rfl rfl (Ge T hl _ _ .you)) rfl ?_) rfl;have:((T.filter λt=>decide (t.k=.you)).map λt=>D.str t.n)=[.str y]:=by rw[show (λt:Th=>D.str t.n)=D.str∘Th.n from rfl,<- aZ,hy];rfl
 rw[this];rfl
end
section
variable{T:List Th}{M:List Mk}{dk:aF}
theorem aaw:va [.lst t8]=some vwD:=by kernel_rfl
theorem aax(y:Str):zg [.lst (shD T y)]=some (rbD T y):=by kernel_rfl
theorem YA:noC 16 14 vwD=true:=by kernel_rfl
theorem YB(y:Str):noC 16 14 (rbD T y)=true:=by kernel_rfl
theorem YC(y:Str):noC 16 14 (.lst (shD T y))=true:=by kernel_rfl
theorem YD(y:Str):(shD T y).length<=900:=bT (by kernel_rfl)
abbrev n7:aF:=["kept_things", "kept_marks", "kept_dark", "kept_ways", "kept_verbs", "shared_verbs", "your_name"]
abbrev d7(T:List Th)(M:List Mk)(dk:aF)(y:Str):List L4.D:=[TD T,MD M,.lst (dk.map D.str),.lst (wyT T),.lst [],.lst t8,.str y]
theorem aay(ns:aF)(ds:List L4.D):wF [.obj 14 (n6++ns) (d6 T M dk++ds)]=some (.lst t8):=by kernel_rfl
theorem T2(ns:aF)(ds:List L4.D)(q:Sl)(hc:(n6++ns).contains "all_verbs" = false):yD 16 (r9 va (rV (tS v5 "all_verbs" aa sI) sI)) (wR T M dk (n6++ns) (d6 T M dk++ds) q)=some (vwD,wR T M dk (n6++ns) (d6 T M dk++ds) q):=
 QJ (r:=wL T M dk (n6++ns) (d6 T M dk++ds) q) (rZ (rW (uh (xs:=d6 T M dk++ds) (ys:=[]) (hh:=wF) rfl rfl hc rfl (aay ns ds)) rfl) aaw) YA
abbrev l4:=(rV aw sI)
theorem QK(y:Str)(ns:aF)(ds:List L4.D)(q:Sl):yD 16 (cL (tp vE (rV (c1 (sU xi "your_name") aa) l4))) (wR T M dk (n7++ns) (d7 T M dk y++ds) q)=some (.lst (shD T y),wR T M dk (n7++ns) (d7 T M dk y++ds) q):=
 QJ (r:=wL T M dk (n7++ns) (d7 T M dk y++ds) q) (tJ (rZ (ds:=[.str y,.lst (wyT T)]) rfl (aat T y))) (YC (T:=T) y)
abbrev n13:aF:=["kept_things", "kept_marks", "kept_dark", "kept_ways", "kept_verbs", "shared_verbs", "your_name", "things_by_name", "mosts_by_name", "verbs_by_word", "kept_rules", "shared_rules", "copied_rules"]
theorem w_rb(y:Str)(a b c d:L4.D)(q:Sl):yD 16 (r9 zg (rV (cL (uW (c1 (sU xf "copied_rules") aa) (c1 (sU xg "shared_rules") aa))) sI)) (wR T M dk n13 [TD T,MD M,.lst (dk.map D.str),.lst (wyT T),.lst [],.lst t8,.str y,a,b,c,d,.lst (shD T y),.lst []] q)=some (rbD T y,wR T M dk n13 [TD T,MD M,.lst (dk.map D.str),.lst (wyT T),.lst [],.lst t8,.str y,a,b,c,d,.lst (shD T y),.lst []] q):=
 QJ (r:=wL T M dk n13 [TD T,MD M,.lst (dk.map D.str),.lst (wyT T),.lst [],.lst t8,.str y,a,b,c,d,.lst (shD T y),.lst []] q) (rZ (rW (tJ (wZ (xs:=[]) (ys:=shD T y) rfl rfl (by have:=YD (T:=T) y;simp;omega))) rfl) (aax (T:=T) y)) (YB (T:=T) y)
theorem Jb(h1:e (wR T M dk ns ds q)=some (d,wR T M dk ns ds q))(h2:ns.contains nm=false)(h3:ds.length=ns.length)(h4:ns.length<900)(h:g (wR T M dk (ns++[nm]) (ds++[d]) q)=r):r6 (tI 14 0 nm e) g (wR T M dk ns ds q)=r:=(rX (w_fl h1 h2 h3 h4)).trans h
theorem QL(g:Good T M dk)(y:Str)(hy:(T.filter λt=>decide (t.k=.you)).map Th.n=[y])(emo:u9 [TD T,MD M]=some mo):wH [TD T,MD M,.lst (dk.map D.str),.lst (wyT T),.lst [],.lst []]=some (wNs,wDs T M dk y mo):=by
 have hl:=g.len;have e:wG (wR T M dk [] [] .un)=some (.nx (wR T M dk wNs (wDs T M dk y mo) (.im (.bl true)))):=by
  unfold wG;refine(rX (tV (ρ':=wR T M dk [] [] .un) (rZ (rW rfl (rW rfl (rW rfl (rW rfl (rW rfl (rW (tJ (rZ (g:=uQ) (ds:=[]) rfl Ko)) rfl)))))) (Gd g)))).trans ?_
  iterate 5 refine Jb rfl rfl rfl (by decide) ?_
  refine Jb (tJ (rZ (g:=uQ) (ds:=[]) rfl Ko)) rfl rfl (by decide) (Jb (aav y (by omega) hy) rfl rfl (by decide) (Jb (rZ (ds:=[TD T]) rfl (LH T (by omega) g.ndT)) rfl rfl (by decide) (Jb (rZ (ds:=[TD T,MD M]) rfl emo) rfl rfl (by decide)
   (Jb (T2 ["your_name", "things_by_name", "mosts_by_name"] [.str y,.dic (nK T) (T.map thD),mo] .un rfl) rfl rfl (by decide) ?_))))
  refine(rX ((sE (i:=7) (QJ (d:=.bl true) (T:=T) (M:=M) (dk:=dk) rfl rfl)).trans rfl)).trans ((rX (uR (ρ1:=_) rfl)).trans ?_);refine Jb rfl rfl rfl (by decide) (Jb (QK y ["things_by_name", "mosts_by_name", "verbs_by_word", "kept_rules"] [.dic (nK T) (T.map thD),mo,vwD,.lst []] (.im (.bl true))) rfl rfl (by decide) (Jb rfl rfl rfl (by decide) ?_));exact w_fl (w_rb y _ _ _ _ (.im (.bl true))) rfl rfl (by decide)
 unfold wH fnI;rw[aj (show [TD T,MD M,D.lst (dk.map D.str),D.lst (wyT T),D.lst [],D.lst []].length=6 from rfl)];rw[show wG (stI 14 8 [TD T,MD M,.lst (dk.map D.str),.lst (wyT T),.lst [],.lst []])=some (.nx (wR T M dk wNs (wDs T M dk y mo) (.im (.bl true)))) from e];rfl
end
def IL(ds:List L4.D):Prop:=∃xs:List Int,ds=xs.map D.int
theorem IL.nil:IL []:=⟨[],rfl⟩
theorem IL.snoc{ds:List L4.D}(h:IL ds)(i:Int):IL (ds++[.int i]):=by obtain⟨xs,rfl⟩:=h;exact⟨xs++[i],by rw[bj];rfl⟩
theorem IL.sub(h:IL ds)(hs:∀d∈es,d∈ds):IL es:=by
 induction es with
 |nil=>exact IL.nil
 |cons d es ih=>obtain⟨ys,rfl⟩:=ih λd hd=>hs d (bo _ hd);obtain⟨xs,rfl⟩:=h;obtain⟨i,_,rfl⟩:=aK.mp (hs d aY);exact⟨i::ys,rfl⟩
theorem T4{lo:Option Int}:∀d∈cutD ds lo hi,d∈ds:=λd hd=>by unfold cutD at hd;exact jU (mN hd)
def ML:FS:=(r6 (sY (vX 2 (c2 vB av (c2 DN fF cU))))
 (sO 3 (c2 Bq av (c2 DN fF cU))))
def QM:FT:=Br (vp (cT (c2 Fk av aW)) (cT (c2 Bl (c1 uw ar) af)))
theorem Er(c:Int)(m:Nat)(hm:m<=130):∀(n:Nat) (ds:List L4.D) (r:Int),IL ds->ds.length<=m->m - ds.length<n->∃ds' r',IL ds'/\ds'.length<=m/\
  whL QM ML n [.im (.int c),.im (.int m),.ls ds,.im (.int r),.un,.un,.un]=some (.nx [.im (.int c),.im (.int m),.ls ds',.im (.int r'),.un,.un,.un])
 |0,ds,r,_,_,h=>au h (oi _)
 |n+1,ds,r,hi,hl,hn=>by
  have ht:QM [.im (.int c),.im (.int m),.ls ds,.im (.int r),.un,.un,.un]=some (decide (0<r)&&decide (ds.length<m),[.im (.int c),.im (.int m),.ls ds,.im (.int r),.un,.un,.un]):=by
   refine Iw (ρ1:=[.im (.int c),.im (.int m),.im (.lst ds),.im (.int r),.un,.un,.un]) ?_;show vp _ _ [.im (.int c),.im (.int m),.im (.lst ds),.im (.int r),.un,.un,.un]=_;unfold vp;rw[show cT (c2 Fk av aW) [.im (.int c),.im (.int m),.im (.lst ds),.im (.int r),.un,.un,.un]=some (decide (0<r),[.im (.int c),.im (.int m),.im (.lst ds),.im (.int r),.un,.un,.un]) from rfl];cases decide (0<r)with
   |false=>rfl
   |true=>show cT (c2 Bl (c1 uw ar) af) _=some (decide (ds.length<m),_);rw[show cT (c2 Bl (c1 uw ar) af) [.im (.int c),.im (.int m),.im (.lst ds),.im (.int r),.un,.un,.un]=some (decide ((ds.length:Int)<m),[.im (.int c),.im (.int m),.im (.lst ds),.im (.int r),.un,.un,.un]) from rfl];simp only[Int.ofNat_lt]
  unfold whL;rw[ht];cases hq:(decide (0<r)&&decide (ds.length<m))with
  |false=>exact⟨ds,r,hi,hl,rfl⟩
  |true=>
   rw[bq,bG,bG]at hq;have e1:ML [.im (.int c),.im (.int m),.ls ds,.im (.int r),.un,.un,.un]=some (.nx [.im (.int c),.im (.int m),.ls (ds++[.int (r % 1000000)]),.im (.int (r / 1000000)),.un,.un,.un]):=by unfold ML;refine(rX (ρ':=[.im (.int c),.im (.int m),.ls (ds++[.int (r % 1000000)]),.im (.int r),.un,.un,.un]) ((tV (ye (es0:=ds) (es:=ds) (ρ1:=[.im (.int c),.im (.int m),.ls ds,.im (.int r),.un,.un,.un]) rfl (se rfl rfl (xJ (by decide))) rfl (by omega))).trans rfl)).trans ?_;exact(sE (se rfl rfl (div_pos (by decide) (by decide)))).trans rfl
   simp only[e1];exact Er c m hm n _ _ (hi.snoc _) (by rw[aC,bh];omega) (by rw[aC,bh];omega)
def fBody:FS:=(r6 (sO 4 (c2 vB (c2 xq (c2 tU (c2 tU aw (c2 xq (cC (.int 7919)) aE)) aD) jA) eO))
 (r6 (sO 6 (c2 vB (c2 xq aw (c2 tU (c2 Bq aw (cC (.int 1009))) (cC (.int 69621)))) eO))
 (sY (vX 2 (c2 vB (c2 xq bf (c2 tU (c2 Bq bf (cC (.int 2003))) (cC (.int 40692)))) (cC (.int 2147483399)))))))
theorem modS(a:Int):0<=a % 2147483647/\a % 2147483647<2147483647:=⟨kj _ (by decide),j6 _ (by decide)⟩
theorem HL(a b r:Sl):∀(l:List Int) (ds:List L4.D) (x:Int) (s5 s6:Sl),IL ds->ds.length+l.length<=900->∃ds' x' t5 t6,IL ds'/\
  forL (gN 5) fBody (l.map D.int) [a,b,.ls ds,r,.im (.int x),s5,s6]=some (.nx [a,b,.ls ds',r,.im (.int x'),t5,t6])
 |[],ds,x,s5,s6,hi,_=>⟨ds,x,s5,s6,hi,rfl⟩
 |k::l,ds,x,s5,s6,hi,hl=>by
  rw[aH]at hl;let y:=(x+7919 * k+1) * 48271 % 2147483647;let z:=y * (y / 1009+69621) % 2147483647;let v:=z * (z / 2003+40692) % 2147483399;have hy:=modS ((x+7919 * k+1) * 48271);have hz:=modS (y * (y / 1009+69621));have e1:fBody [a,b,.ls ds,r,.im (.int x),.im (.int k),s6]=some (.nx [a,b,.ls (ds++[.int v]),r,.im (.int y),.im (.int k),.im (.int z)]):=by unfold fBody;refine(rX (ρ':=[a,b,.ls ds,r,.im (.int y),.im (.int k),s6]) ((sE (se (se (se (se rfl (se rfl rfl (xW (.inl (by decide)))) rfl) rfl rfl) rfl (xW (.inr (by decide)))) rfl (xJ (by decide)))).trans rfl)).trans ?_;refine(rX (ρ':=[a,b,.ls ds,r,.im (.int y),.im (.int k),.im (.int z)]) ((sE (se (se rfl (se (se rfl rfl (div_pos (by decide) (by decide))) rfl rfl) (xW (.inl (JL hy.1 hy.2)))) rfl (xJ (by decide)))).trans rfl)).trans ?_;exact(tV (ye (es0:=ds) (es:=ds) (ρ1:=[a,b,.ls ds,r,.im (.int y),.im (.int k),.im (.int z)]) rfl (se (se rfl (se (se rfl rfl (div_pos (by decide) (by decide))) rfl rfl) (xW (.inl (JL hz.1 hz.2)))) rfl (xJ (by decide))) rfl (by omega))).trans rfl
  obtain⟨ds',x',t5,t6,h1,h2⟩:=HL a b r l (ds++[.int v]) y (.im (.int k)) (.im (.int z)) (hi.snoc _) (by rw[aC,bh];omega);refine⟨ds',x',t5,t6,h1,?_⟩;rw[az];unfold forL;rw[show gN 5 (.int k) [a,b,.ls ds,r,.im (.int x),s5,s6]=some [a,b,.ls ds,r,.im (.int x),.im (.int k),s6] from rfl];simp only[e1];exact h2
theorem Kp(c:Int)(m:Nat)(hm:m<=130):∃ds,IL ds/\wN [.int c,.int m]=some ds:=by
 have fin:∀r0:Int,∃ds,IL ds/\∃ρ,r6 (whL QM ML 200) (r6 (sO 4 (c2 vB (c2 xq (c2 tU (c2 vB aa eO) aD) jA) eO)) (r6 (vY (iR1 af) (gN 5) fBody) (uI (xK (cFz 2) oNo (oAt af))))) [.im (.int c),.im (.int m),.ls [],.im (.int r0),.un,.un,.un]=some (.rn ds ρ):=λr0=>by obtain⟨ds,r,h1,h2,h3⟩:=Er c m hm 200 [] r0 IL.nil (cu _) (by simp;omega);let x:=(c % 2147483647+1) * 48271 % 2147483647;obtain⟨ds',x',t5,t6,h4,h5⟩:=HL (.im (.int c)) (.im (.int m)) (.im (.int r)) ((bH m).map λ(i:Nat)=>(0:Int)+(i:Int)) ds x .un .un h1 (by rw[ah,gV];omega);refine⟨cutD ds' none (some m),h4.sub T4,[.im (.int c),.im (.int m),.im (.lst ds'),.im (.int r),.im (.int x'),t5,t6],?_⟩;refine(rX h3).trans ?_;refine(rX (ρ':=[.im (.int c),.im (.int m),.ls ds,.im (.int r),.im (.int x),.un,.un]) ((sE (se (se (se (se rfl rfl (xJ (by decide))) rfl rfl) rfl (xW (.inr (by decide)))) rfl (xJ (by decide)))).trans rfl)).trans ?_;refine(rX ((ug (ds:=((bH m).map λ(i:Nat)=>(0:Int)+(i:Int)).map D.int) (ρ1:=[.im (.int c),.im (.int m),.ls ds,.im (.int r),.im (.int x),.un,.un]) ?_).trans h5)).trans rfl;unfold iR1;show (if -1000000<=(m:Int)/\(m:Int)<=1000000 then some (Fi 0 (m:Int).toNat,_)else none)=_;rw[aj (by omega),iP];unfold Fi;rw[aZ];rfl
 by_cases hc:(1000000000000000000:Int)<=c
 ·obtain⟨ds,h1,ρ,h2⟩:=fin (c - 1000000000000000000);refine⟨ds,h1,zC (ρ:=ρ) rfl ?_⟩;refine(rX (ρ':=[.im (.int c),.im (.int m),.ls [],.un,.un,.un,.un]) rfl).trans ((rX (ρ':=[.im (.int c),.im (.int m),.ls [],.im (.int 0),.un,.un,.un]) rfl).trans ((rX (ρ':=[.im (.int c),.im (.int m),.ls [],.im (.int (c - 1000000000000000000)),.un,.un,.un]) ((sP (ρ':=[.im (.int c),.im (.int m),.ls [],.im (.int 0),.un,.un,.un]) ?_).trans rfl)).trans h2));refine tN (se (y:=.int 1000000000000000000) rfl rfl ?_);show some (D.bl (decide _))=_;rw[ba hc]
 ·obtain⟨ds,h1,ρ,h2⟩:=fin 0;refine⟨ds,h1,zC (ρ:=ρ) rfl ?_⟩;refine(rX (ρ':=[.im (.int c),.im (.int m),.ls [],.un,.un,.un,.un]) rfl).trans ((rX (ρ':=[.im (.int c),.im (.int m),.ls [],.im (.int 0),.un,.un,.un]) rfl).trans ((rX (ρ':=[.im (.int c),.im (.int m),.ls [],.im (.int 0),.un,.un,.un]) ((sf (ρ':=[.im (.int c),.im (.int m),.ls [],.im (.int 0),.un,.un,.un]) ?_).trans rfl)).trans h2));refine tN (se (y:=.int 1000000000000000000) rfl rfl ?_);show some (D.bl (decide _))=_;rw[aO hc]
theorem HM:∀xs:List Int,Dk (xs.map D.int)=some (xs.map L3.Dq.int)
 |[]=>rfl
 |x::xs=>by rw[az];unfold Dk;rw[HM xs];rfl
theorem Kq(x:Int)(xs:List Int):dEq false (.lst ((x::xs).map D.int)) (.lst [])=some (.bl false):=by
 have e0:Dl false (.lst ((x::xs).map D.int)) (.lst [])=none:=rfl;have e1:toD (.lst ((x::xs).map D.int))=some (.lst ((x::xs).map L3.Dq.int)):=by unfold toD;rw[HM]
 have e2:∀ys:List Int,uS (ys.map L3.Dq.int)=0:=λys=>by
  induction ys with
  |nil=>rfl
  |cons y ys ih=>rw[az];unfold uS;rw[ih];unfold dpt;rfl
 have e3:dpt (.lst ((x::xs).map L3.Dq.int))=1:=by rw[dpt,e2]
 unfold dEq;rw[e0];show Dm false _ _=_;unfold Dm;rw[e1,show toD (.lst [])=some (.lst []) from rfl];show (if GZ (.lst ((x::xs).map L3.Dq.int)) (.lst [])&&decide (dpt (.lst ((x::xs).map L3.Dq.int))<=20)&&decide (dpt (.lst [])<=20)then some (D.bl (eqD (.lst ((x::xs).map L3.Dq.int)) (.lst [])))else none)=_;rw[e3];rfl
theorem uv(h:IL es)(n:Int)(hn:0<n):∃r es',IL es'/\0<=r/\r<n/\rY es [.int n]=some (.int r,es'):=by
 obtain⟨xs,rfl⟩:=h;cases xs with
 |nil=>exact⟨0,[],IL.nil,pj _,hn,rfl⟩
 |cons x xs=>refine⟨x % n,xs.map D.int,⟨xs,rfl⟩,kj _ (by omega),j6 _ hn,?_⟩;refine Wp (ρ:=[.pm (xs.map D.int),.im (.int n)]) rfl ?_ rfl;refine(rX (ρ':=[.pm ((x::xs).map D.int),.im (.int n)]) ((sf (ρ':=[.pm ((x::xs).map D.int),.im (.int n)]) (Iw (ρ1:=[.im (.lst ((x::xs).map D.int)),.im (.int n)]) (tN (se (x:=.lst ((x::xs).map D.int)) (y:=.lst []) rfl rfl (Kq x xs))))).trans rfl)).trans ?_;exact sH (se (x:=.int x) (ρ1:=[.pm (xs.map D.int),.im (.int n)]) rfl rfl (xJ hn))
def lets:Str:="bcdefghijklmnopqrstuvwxyz"
theorem YE(i:Nat)(h:i<25):dIx (.str lets) (.int i)=some (.str ⟨#[98+i]⟩):=by
 have q:((bH 25).all λi=>match dIx (.str lets) (.int i)with|some (.str x)=>decide (x=⟨#[98+i]⟩)|_=>false)=true:=by kernel_rfl
 have:=bJ.mp q i (cB.mpr h);revert this;split
 ·rename_i x e;intro z;rw[e,bu z]
 ·intro z;cases z
abbrev fD:=(rV (cC (.int 8)) sI)
def nElt:FE:=(c2 JN (c2 dIx af (c2 vB (c2 tU av (c2 xq dA aa)) jE)) (c2 tU aD (tu rY 2 fD)))
theorem T5(h:IL es)(s k:Nat):∃c es',c<8/\IL es'/\nElt [.im (.int k),.im (.str lets),.pm es,.im (.int s)]=some (.str (nmS ((s+7 * k) % 25) c),[.im (.int k),.im (.str lets),.pm es',.im (.int s)]):=by
 obtain⟨r,es',h1,h2,h3,h4⟩:=uv h 8 (by decide);obtain⟨c,rfl⟩:=cz h2;refine⟨c,es',by omega,h1,?_⟩;have hm:(s+7 * k) % 25<25:=pB _ (by decide);let ρ:bg:=[.im (.int k),.im (.str lets),.pm es,.im (.int s)];let ρ':bg:=[.im (.int k),.im (.str lets),.pm es',.im (.int s)];have e1:c2 dIx af (c2 vB (c2 tU av (c2 xq dA aa)) jE) ρ=some (.str ⟨#[98+(s+7 * k) % 25]⟩,ρ):=by
  refine se (y:=.int (((s+7 * k) % 25:Nat):Int)) rfl (se (se rfl (se rfl rfl (xW (.inl (by decide)))) rfl) rfl ((xJ (by decide)).trans ?_)) (YE _ hm);have:((s:Int)+7 * k) % 25=(((s+7 * k) % 25:Nat):Int):=by omega
  rw[this]
 have e2:c2 tU aD (tu rY 2 fD) ρ=some (.int (1+(c:Int)),ρ'):=se rfl ((vo (es0:=es) (es:=es) (ρ1:=ρ) rfl rfl rfl h4).trans rfl) rfl;refine se e1 e2 ?_;show (if 0<=1+(c:Int)/\1+(c:Int)<=1000/\pz ⟨#[98+(s+7 * k) % 25]⟩<=100 then some (D.str (ib ⟨#[98+(s+7 * k) % 25]⟩ (1+(c:Int))))else none)=_;rw[aj ⟨by omega,by omega,by show 1<=100;decide⟩];rfl
theorem Kr(s:Nat):∀(l:List Nat) (es:List L4.D),IL es->∃cs es',cs.length=l.length/\(∀c∈cs,c<8)/\IL es'/\
  wX 1 [2,0,1] (gN 0) ua nElt (l.map λ(k:Nat)=>D.int k) [.pm es,.im (.int s),.im (.str lets)]=some (dj (λ(k c:Nat)=>D.str (nmS ((s+7 * k) % 25) c)) l cs,[.pm es',.im (.int s),.im (.str lets)])
 |[],es,h=>⟨[],es,rfl,λc hc=>(bU hc).elim,h,rfl⟩
 |k::l,es,h=>by
  obtain⟨c,es1,h1,h2,h3⟩:=T5 h s k;obtain⟨cs,es',h4,h5,h6,h7⟩:=Kr s l es1 h2;refine⟨c::cs,es',by rw[aH,aH,h4],λx hx=>?_,h6,?_⟩
  ·rcases aN.mp hx with rfl|hx
   ·exact h1
   ·exact h5 x hx
  ·rw[az];unfold wX;rw[show gN 0 (.int k) (Bk 1 [2,0,1] [.pm es,.im (.int s),.im (.str lets)])=some [.im (.int k),.im (.str lets),.pm es,.im (.int s)] from rfl];simp only[ua,h3];rw[show vW [2,0,1] (([.im (.int k),.im (.str lets),.pm es1,.im (.int s)]:bg).drop 1) [.pm es,.im (.int s),.im (.str lets)]=some [.pm es1,.im (.int s),.im (.str lets)] from rfl];simp only[h7];rfl
theorem QN(s:Nat)(hs:s<25):∀(l cs:List Nat),cs.length=l.length->(∀c∈cs,c<8)->(l.map λk=>(s+7 * k) % 25).Nodup->∃N:aF,N.length=l.length/\(∀x∈N,Nm x)/\N.Nodup/\(∀x∈N,∃k∈l,sg x=98+(s+7 * k) % 25)/\dj (λ(k c:Nat)=>D.str (nmS ((s+7 * k) % 25) c)) l cs=N.map D.str
 |[],[],_,_,_=>⟨[],rfl,λx h=>(bU h).elim,gZ,λx h=>(bU h).elim,rfl⟩
 |[],c::cs,h,_,_=>by cases h
 |k::l,[],h,_,_=>by cases h
 |k::l,c::cs,h,hc,nd=>by
  rw[az,cj]at nd;obtain⟨N,h1,h2,h3,h4,h5⟩:=QN s hs l cs (by simpa using h) (λx hx=>hc x (bo _ hx)) nd.2;have hm:(s+7 * k) % 25<25:=pB _ (by decide);have hsg:=aas hm (hc c aY);refine⟨nmS ((s+7 * k) % 25) c::N,by rw[aH,aH,h1],λx hx=>?_,?_,λx hx=>?_,?_⟩
  ·rcases aN.mp hx with rfl|hx
   ·exact⟨_,_,hm,hc c aY,rfl⟩
   ·exact h2 x hx
  ·rw[cj];refine⟨λz=>?_,h3⟩;obtain⟨j,hj,e⟩:=h4 _ z;rw[hsg]at e;exact nd.1 (aK.mpr ⟨j,hj,by omega⟩)
  ·rcases aN.mp hx with rfl|hx
   ·exact⟨k,aY,hsg⟩
   ·obtain⟨j,hj,e⟩:=h4 x hx;exact⟨j,bo _ hj,e⟩
  ·rw[eU,h5];rfl
structure Nms(N:aF):Prop where
 len:N.length=17
 nm:∀x∈N,Nm x
 nd:N.Nodup
theorem QO(h:IL es):∃N es',Nms N/\IL es'/\zT es []=some (.lst (N.map D.str),es'):=by
 obtain⟨r,es1,h1,h2,h3,h4⟩:=uv h 25 (by decide);obtain⟨s,rfl⟩:=cz h2;have hs:s<25:=by omega
 obtain⟨cs,es2,h5,h6,h7,h8⟩:=Kr s (bH 17) es1 h1;have nd:((bH 17).map λk=>(s+7 * k) % 25).Nodup:=by
  have q:((bH 25).all λs=>decide ((bH 17).map λk=>(s+7 * k) % 25).Nodup)=true:=by decide +kernel
  exact bu (bJ.mp q s (cB.mpr hs))
 obtain⟨N,n1,n2,n3,_,n5⟩:=QN s hs (bH 17) cs h5 h6 nd;refine⟨N,es2,⟨by rw[n1,gV],n2,n3⟩,h7,Wq (ρ:=[.pm es2,.im (.int s),.im (.str lets)]) rfl ?_ rfl⟩;unfold zS;refine(rX (ρ':=[.pm es1,.im (.int s),.un]) ((sE (vo (es0:=es) (es:=es) (ρ1:=[.pm es,.un,.un]) rfl rfl rfl h4)).trans rfl)).trans ?_;refine(rX (ρ':=[.pm es1,.im (.int s),.im (.str lets)]) rfl).trans ?_;refine zz ((zB (ds:=(bH 17).map λ(k:Nat)=>D.int k) (ρ1:=[.pm es1,.im (.int s),.im (.str lets)]) ?_ (by simp)).trans (by rw[<-n5];exact h8));unfold iR1;show (if _ then some (Fi 0 17,_)else none)=_;rw[aj (by decide)];unfold Fi;simp only[Int.zero_add]
structure Rw where
 n:Str
 k:Kd
 s:Option Str
def sT(r:Rw):L4.D:=.tup [.str r.n,.str r.k.s,oS r.s]
def Jc(l:List Rw)(r:Rw):Prop:=(r.k=.room/\r.s=none)\/(r.k=.you/\∃u∈l,r.s=some u.n/\u.k=.room)\/(r.k.pl=true/\∃u∈l,r.s=some u.n/\u.k.hd=true)
inductive Ord:List Rw->Prop
 |nil:Ord []
 |snoc {l:List Rw} {r:Rw} (h:Ord l) (h':Jc l r):Ord (l++[r])
theorem Jc.mono(h:Jc l r)(hs:∀u∈l,u∈l'):Jc l' r:=by
 rcases h with h|⟨h1,u,h2,h3⟩|⟨h1,u,h2,h3⟩
 ·exact .inl h
 ·exact .inr (.inl ⟨h1,u,hs u h2,h3⟩)
 ·exact .inr (.inr ⟨h1,u,hs u h2,h3⟩)
theorem Ord.all(h:Ord l):∀r∈l,Jc l r:=by
 induction h with
 |nil=>exact λr hr=>(bU hr).elim
 |snoc h h' ih=>
  intro r hr;rcases bC.mp hr with hr|hr
  ·exact(ih r hr).mono λu hu=>bK _ hu
  ·rw[aR]at hr;subst hr;exact h'.mono λu hu=>bK _ hu
theorem Jc.start(h:Jc l r)(hp:r.s=some p):∃u∈l,u.n=p:=by
 rcases h with ⟨_,h⟩|⟨_,u,h2,h3,_⟩|⟨_,u,h2,h3,_⟩
 ·rw[h]at hp;cases hp
 ·rw[h3]at hp;cases hp;exact⟨u,h2,rfl⟩
 ·rw[h3]at hp;cases hp;exact⟨u,h2,rfl⟩
theorem Ord.rank(h:Ord l):(l.map Rw.n).Nodup->∃rk:Str->Nat,∀t∈l,rk t.n<l.length/\∀p,t.s=some p->rk p<rk t.n/\∃u∈l,u.n=p:=by
 induction h with
 |nil=>exact λ_=>⟨λ_=>0,λt ht=>(bU ht).elim⟩
 |@snoc l r h h' ih=>
  intro nd;rw[bj,cc]at nd;obtain⟨rk,hk⟩:=ih nd.1;have ne:∀u∈l,u.n≠r.n:=λu hu z=>nd.2.2 _ (cA hu) _ (by simp) z;refine⟨λx=>if x=r.n then l.length else rk x,λt ht=>?_⟩;rw[aC,bh];dsimp only;rcases bC.mp ht with ht|ht
  ·obtain⟨h1,h2⟩:=hk t ht;rw[ao (ne t ht)];refine⟨by omega,λp hp=>?_⟩;obtain⟨h3,u,hu,rfl⟩:=h2 p hp;rw[ao (ne u hu)];exact⟨h3,u,bK _ hu,rfl⟩
  ·rw[aR]at ht;subst ht;rw[aj rfl];refine⟨by omega,λp hp=>?_⟩;obtain⟨u,hu,rfl⟩:=h'.start hp;rw[ao (ne u hu)];exact⟨(hk u hu).1,u,bK _ hu,rfl⟩
theorem vc{l:aF}{j:Nat}{x:Str}(h:l[j]?=some x):atI (l.map D.str) (j:Int)=some (.str x):=EF (by rw[bB,h];rfl)
def kT:List Kd:=[.plain,.box,.lamp,.fixed,.box,.lamp,.box,.plain]
theorem aaA(j:Nat)(h:j<8):∃k,k∈kT/\dIx (.lst [.str "plain", .str "box", .str "lamp", .str "fixed", .str "box", .str "lamp", .str "box", .str "plain"]) (.int j)=some (.str (Kd.s k)):=
 ⟨kT[j]'h,dh _,vc (l:=kT.map Kd.s) (by rw[bB,aP (show j<kT.length from h)];rfl)⟩
abbrev eP:=(cC (.str "box"))
abbrev lu:=(cC (.str "plain"))
abbrev jH:=(rV (Ce (c1 uw aw)) sI)
abbrev lW:=(cC (.str "lamp"))
def QP:FS:=(r6 (sO 6 (c2 dIx (cL (sN (rV lu (rV eP (rV lW (rV (cC (.str "fixed")) (rV eP (rV lW (rV eP (rV lu sI)))))))))) (tu rY 2 fD)))
 (r6 (sY (vX 3 (tL (rV aE (rV bf (rV (Dg 4 (tu rY 2 jH)) sI))))))
 (sIf (cT (c2 (dEq false) bf eP)) (sY (vX 4 aE)) sF)))
theorem Jd(h:IL es)(h0:Hs≠[])(hi:uq ρ i=some es)(hj:uq ρ j=some (Hs.map D.str))(hb:cV j (ρ.map Sl.bor)=some (.lst (Hs.map D.str),ρ.map Sl.bor))(hne:∀es',uq (putAt ρ i es') j=some (Hs.map D.str)):
  ∃x es',x∈Hs/\IL es'/\Dg j (tu rY i (rV (Ce (c1 uw (cV j))) sI)) ρ=some (.str x,putAt ρ i es'):=by
 have hp:0<Hs.length:=mS.mpr h0;obtain⟨r,es',h1,h2,h3,h4⟩:=uv h Hs.length (by omega);obtain⟨m,rfl⟩:=cz h2;have hm:m<Hs.length:=by omega
 refine⟨Hs[m],es',dh hm,h1,?_⟩;have e1:Ce (c1 uw (cV j)) ρ=some (.int Hs.length,ρ):=PJ (tQ hb (by show some (D.int _)=_;rw[ah])) rfl;have e2:tu rY i (rV (Ce (c1 uw (cV j))) sI) ρ=some (.int m,putAt ρ i es'):=vo hi (rW e1 rfl) hi h4;unfold Dg;rw[hj];simp only[e2,hne es'];rw[show atI (Hs.map D.str) (m:Int)=some (.str Hs[m]) from vc (aP hm)]
theorem Es(a b:Sl)(B:List Rw):∀(l:aF) (es:List L4.D) (O:List Rw) (Hs:aF) (s5 s6:Sl),IL es->Hs≠[]->(∀x∈Hs,∃u∈B++O,u.n=x/\u.k.hd=true)->Ord (B++O)->O.length+l.length<=900->Hs.length+l.length<=900->
  ∃(es':List L4.D) (O':List Rw) (Hs':aF) (t5 t6:Sl),IL es'/\Ord (B++(O++O'))/\O'.map Rw.n=l/\(∀r∈O',r.k.pl=true)/\
   forL (gN 5) QP (l.map D.str) [a,b,.pm es,.ls (O.map sT),.ls (Hs.map D.str),s5,s6]=some (.nx [a,b,.pm es',.ls ((O++O').map sT),.ls (Hs'.map D.str),t5,t6])
 |[],es,O,Hs,s5,s6,hi,_,_,ho,_,_=>⟨es,[],Hs,s5,s6,hi,by rw[bz];exact ho,rfl,λr hr=>(bU hr).elim,by rw[bz];rfl⟩
 |x::l,es,O,Hs,s5,s6,hi,h0,hH,ho,hl,hl'=>by
  rw[aH]at hl hl';obtain⟨r,es1,h1,h2,h3,h4⟩:=uv hi 8 (by decide);obtain⟨j,rfl⟩:=cz h2;obtain⟨k,hk,ek⟩:=aaA j (by omega);let ρ1:bg:=[a,b,.pm es1,.ls (O.map sT),.ls (Hs.map D.str),.im (.str x),.im (.str k.s)];obtain⟨p,es2,hp,h5,e2⟩:=Jd (ρ:=ρ1) (i:=2) (j:=4) h1 h0 rfl rfl rfl (λ_=>rfl);have hpl:k.pl=true:=by
   have:∀k∈kT,Kd.pl k=true:=by decide
   exact this k hk
  let rw0:Rw:=⟨x,k,some p⟩;obtain⟨u,hu,hun,huk⟩:=hH p hp;have ok:Jc (B++O) rw0:=.inr (.inr ⟨hpl,u,hu,by rw[hun],huk⟩);let Hs1:aF:=if k=.box then Hs++[x]else Hs
  have e3:QP [a,b,.pm es,.ls (O.map sT),.ls (Hs.map D.str),.im (.str x),s6]=some (.nx [a,b,.pm es2,.ls ((O++[rw0]).map sT),.ls (Hs1.map D.str),.im (.str x),.im (.str k.s)]):=by
   unfold QP;refine(rX (ρ':=ρ1) ((sE (se (x:=.lst [.str "plain", .str "box", .str "lamp", .str "fixed", .str "box", .str "lamp", .str "box", .str "plain"]) (ρ1:=[a,b,.pm es,.ls (O.map sT),.ls (Hs.map D.str),.im (.str x),s6]) rfl (vo (es0:=es) (es:=es) (ρ1:=[a,b,.pm es,.ls (O.map sT),.ls (Hs.map D.str),.im (.str x),s6]) rfl rfl rfl h4) ek)).trans rfl)).trans ?_;let ρ2:bg:=[a,b,.pm es2,.ls (O.map sT),.ls (Hs.map D.str),.im (.str x),.im (.str k.s)];let ρ3:bg:=[a,b,.pm es2,.ls ((O++[rw0]).map sT),.ls (Hs.map D.str),.im (.str x),.im (.str k.s)];refine(rX (ρ':=ρ3) ((tV (ye (es0:=O.map sT) (es:=O.map sT) (ρ1:=ρ2) (d:=sT rw0) rfl (uX (rW rfl (rW rfl (rW e2 rfl))) (by show 3<=1000;decide)) rfl (by rw[ah];omega))).trans ?_)).trans ?_
   ·show some (Out.nx [a,b,.pm es2,.ls (O.map sT++[sT rw0]),.ls (Hs.map D.str),.im (.str x),.im (.str k.s)])=_;rw[show O.map sT++[sT rw0]=(O++[rw0]).map sT by rw[bj];rfl]
   ·have et:cT (c2 (dEq false) bf eP) ρ3=some (decide (k=.box),ρ3):=tN (se rfl rfl (F5 k .box));by_cases hb:k=.box
    ·rw[ba hb]at et;refine(sP et).trans ((tV (ye (es0:=Hs.map D.str) (es:=Hs.map D.str) (ρ1:=ρ3) (d:=.str x) rfl rfl rfl (by rw[ah];omega))).trans ?_);show some (Out.nx [a,b,.pm es2,.ls ((O++[rw0]).map sT),.ls (Hs.map D.str++[.str x]),.im (.str x),.im (.str k.s)])=_;rw[show Hs1.map D.str=Hs.map D.str++[.str x] by rw[show Hs1=Hs++[x] from aj hb,bj];rfl]
    ·rw[aO hb]at et;refine(sf et).trans ?_;rw[show Hs1=Hs from ao hb];rfl
  have ho1:Ord (B++(O++[rw0])):=by rw[<-bE];exact ho.snoc ok
  have hH1:∀y∈Hs1,∃u∈B++(O++[rw0]),u.n=y/\u.k.hd=true:=λy hy=>by
   have old:y∈Hs->∃u∈B++(O++[rw0]),u.n=y/\u.k.hd=true:=λhy=>by obtain⟨v,hv,h⟩:=hH y hy;exact⟨v,by rw[<-bE];exact bK _ hv,h⟩
   by_cases hb:k=.box
   ·rw[show Hs1=Hs++[x] from aj hb]at hy;rcases bC.mp hy with hy|hy
    ·exact old hy
    ·rw[aR]at hy;refine⟨rw0,by simp,hy.symm,?_⟩;show k.hd=true;rw[hb];rfl
   ·rw[show Hs1=Hs from ao hb]at hy;exact old hy
  have h01:Hs1≠[]:=by
   by_cases hb:k=.box
   ·rw[show Hs1=Hs++[x] from aj hb];simp
   ·rw[show Hs1=Hs from ao hb];exact h0
  have hl1:Hs1.length<=Hs.length+1:=by
   by_cases hb:k=.box
   ·rw[show Hs1=Hs++[x] from aj hb];simp
   ·rw[show Hs1=Hs from ao hb];omega
  obtain⟨es',O',Hs',t5,t6,g1,g2,g3,g4,g5⟩:=Es a b B l es2 (O++[rw0]) Hs1 (.im (.str x)) (.im (.str k.s)) h5 h01 hH1 ho1 (by rw[aC,bh];omega) (by omega);refine⟨es',rw0::O',Hs',t5,t6,g1,by rw[bE]at g2;exact g2,by rw[az,g3],λr hr=>?_,?_⟩
  ·rcases aN.mp hr with rfl|hr
   ·exact hpl
   ·exact g4 r hr
  ·rw[az];unfold forL;rw[show gN 5 (.str x) [a,b,.pm es,.ls (O.map sT),.ls (Hs.map D.str),s5,s6]=some [a,b,.pm es,.ls (O.map sT),.ls (Hs.map D.str),.im (.str x),s6] from rfl];simp only[e3];rw[g5,bE];rfl
theorem QQ{ds:List L4.D}(k:Nat)(h:k<=ds.length):cutD ds none (some (k:Int))=ds.take k:=by unfold cutD;rw[HT.EW,HT.B4,eD h,oJ,o7]
theorem YF{ds:List L4.D}(k:Nat)(h:k<=ds.length):cutD ds (some (k:Int)) none=ds.drop k:=by unfold cutD;rw[HT.EW,HT.B4,eD h,mC (by rw[cg];omega)]
theorem MM{ds:List L4.D}(k m:Nat)(h:k+m<=ds.length):cutD ds (some (k:Int)) (some ((k+m:Nat):Int))=(ds.drop k).take m:=by unfold cutD;rw[HT.B4,HT.B4,eD h,eD (show k<=ds.length by omega)];congr 1;omega
theorem Oi{rooms:aF}(hN:Nms N)(B:List Rw)(h:IL es)(hB:Ord B)(hr:rooms.length<=100)(hH:∀x∈rooms++[N[5]'(by rw[hN.len];decide)],∃u∈B,u.n=x/\u.k.hd=true):
  ∃(q:Nat) (es':List L4.D) (O:List Rw),q<8/\IL es'/\Ord (B++O)/\O.map Rw.n=(N.drop 6).take q/\(∀r∈O,r.k.pl=true)/\vg es [.lst (N.map D.str),.lst (rooms.map D.str)]=some (.lst (O.map sT),es'):=by
 have h5:5<N.length:=by rw[hN.len];decide
 obtain⟨r,es1,h1,h2,h3,h4⟩:=uv h 8 (by decide);obtain⟨q,rfl⟩:=cz h2;let Hs:=rooms++[N[5]];obtain⟨es',O,Hs',t5,t6,g1,g2,g3,g4,g5⟩:=Es (.im (.lst (N.map D.str))) (.im (.lst (rooms.map D.str))) B ((N.drop 6).take q) es1 [] Hs .un .un h1 (by simp[Hs]) (λx hx=>by rw[bz];exact hH x hx) (by rw[bz];exact hB) (by rw[bw,cg,hN.len];simp;omega) (by rw[bw,cg,hN.len];simp[Hs];omega);rw[bP]at g2 g5;refine⟨q,es',O,by omega,g1,g2,g3,g4,?_⟩;have run:xk (stL 7 es [.lst (N.map D.str),.lst (rooms.map D.str)])=some (.rn (O.map sT) [.im (.lst (N.map D.str)),.im (.lst (rooms.map D.str)),.pm es',.un,.ls (Hs'.map D.str),t5,t6]):=by
  unfold xk;refine(rX (ρ':=[.im (.lst (N.map D.str)),.im (.lst (rooms.map D.str)),.pm es,.ls [],.un,.un,.un]) rfl).trans ?_;refine(rX (ρ':=[.im (.lst (N.map D.str)),.im (.lst (rooms.map D.str)),.pm es,.ls [],.ls (Hs.map D.str),.un,.un]) ((zy (wZ (xs:=rooms.map D.str) (ys:=[.str N[5]]) rfl (tJ (As (rW (se rfl rfl (vc (j:=5) (aP h5))) rfl) (by show 1<=1000;decide))) (by rw[ah];simp;omega))).trans ?_)).trans ?_
  ·show some (Out.nx [_,_,_,_,.ls (rooms.map D.str++[.str N[5]]),_,_])=_;rw[show rooms.map D.str++[.str N[5]]=Hs.map D.str by simp[Hs]]
  ·refine(rX ((ug (ds:=((N.drop 6).take q).map D.str) (ρ1:=[.im (.lst (N.map D.str)),.im (.lst (rooms.map D.str)),.pm es1,.ls [],.ls (Hs.map D.str),.un,.un]) ?_).trans g5)).trans rfl;have e:xK aa (oAt cU) (oAt (c2 tU cU (tu rY 2 fD))) [.im (.lst (N.map D.str)),.im (.lst (rooms.map D.str)),.pm es,.ls [],.ls (Hs.map D.str),.un,.un]=some (((N.drop 6).take q).map D.str,[.im (.lst (N.map D.str)),.im (.lst (rooms.map D.str)),.pm es1,.ls [],.ls (Hs.map D.str),.un,.un]):=by
    have e1:c2 tU cU (tu rY 2 fD) [.im (.lst (N.map D.str)),.im (.lst (rooms.map D.str)),.pm es,.ls [],.ls (Hs.map D.str),.un,.un]=some (.int ((6+q:Nat):Int),[.im (.lst (N.map D.str)),.im (.lst (rooms.map D.str)),.pm es1,.ls [],.ls (Hs.map D.str),.un,.un]):=se rfl ((vo (es0:=es) (es:=es) (ρ1:=[.im (.lst (N.map D.str)),.im (.lst (rooms.map D.str)),.pm es,.ls [],.ls (Hs.map D.str),.un,.un]) rfl rfl rfl h4).trans rfl) (by show some (D.int (6+(q:Int)))=_;congr 2);have e2:oAt (c2 tU cU (tu rY 2 fD)) [.im (.lst (N.map D.str)),.im (.lst (rooms.map D.str)),.pm es,.ls [],.ls (Hs.map D.str),.un,.un]=some (some ((6+q:Nat):Int),[.im (.lst (N.map D.str)),.im (.lst (rooms.map D.str)),.pm es1,.ls [],.ls (Hs.map D.str),.un,.un]):=by unfold oAt;rw[e1]
    unfold xK;show (match oAt (c2 tU cU (tu rY 2 fD)) [.im (.lst (N.map D.str)),.im (.lst (rooms.map D.str)),.pm es,.ls [],.ls (Hs.map D.str),.un,.un]with
     |some (h,ρ3)=>some (cutD (N.map D.str) (some 6) h,ρ3)
     |none=>none)=_
    rw[e2];show some (cutD (N.map D.str) (some ((6:Nat):Int)) (some ((6+q:Nat):Int)),_)=_;rw[MM 6 q (by rw[ah,hN.len];omega),fo,fV]
   unfold iL;rw[tJ e]
 unfold vg fnL;rw[aj (show [D.lst (N.map D.str),D.lst (rooms.map D.str)].length=2 from rfl),run];rfl
def YG:FS:=(r6 (sO 7 (tu rY 1 (rV (c2 tU (c1 uw aE) aD) sI)))
 (sO 5 (cL (uW (cL (uW (cL (xK aE oNo (oAt bV))) (cL (sN (rV bf sI))))) (cL (xK aE (oAt bV) oNo))))))
theorem Ks:∀(l:List Rw) (es:List L4.D) (R:List Rw) (s6 s7:Sl),IL es->R.length+l.length<=900->∃(es':List L4.D) (R':List Rw) (t6 t7:Sl),IL es'/\R'.Perm (R++l)/\
  forL (gN 6) YG (l.map sT) [a,.ls es,b,c,d,.im (.lst (R.map sT)),s6,s7,x8,x9,x10,x11,x12,x13]=some (.nx [a,.ls es',b,c,d,.im (.lst (R'.map sT)),t6,t7,x8,x9,x10,x11,x12,x13])
 |[],es,R,s6,s7,hi,_=>⟨es,R,s6,s7,hi,by rw[bz],rfl⟩
 |r::l,es,R,s6,s7,hi,hl=>by
  rw[aH]at hl;obtain⟨v,es1,h1,h2,h3,h4⟩:=uv hi ((R.map sT).length+1:Int) (by omega);obtain⟨k,rfl⟩:=cz h2;have hk:k<=(R.map sT).length:=by omega
  let R1:=R.take k++r::R.drop k;have p1:R1.Perm (R++[r]):=by have:=(List.perm_middle (a:=r) (l₁:=R.take k) (l₂:=R.drop k));rw[jQ]at this;exact this.trans (List.perm_append_singleton r R).symm
  have hR1:R1.length=R.length+1:=p1.length_eq.trans (by simp);let ρ1:bg:=[a,.ls es1,b,c,d,.im (.lst (R.map sT)),.im (sT r),.im (.int k),x8,x9,x10,x11,x12,x13];have e1:YG [a,.ls es,b,c,d,.im (.lst (R.map sT)),.im (sT r),s7,x8,x9,x10,x11,x12,x13]=some (.nx [a,.ls es1,b,c,d,.im (.lst (R1.map sT)),.im (sT r),.im (.int k),x8,x9,x10,x11,x12,x13]):=by
   unfold YG;refine(rX (ρ':=ρ1) ((sE (i:=7) (vo (i:=1) (es0:=es) (es:=es) (ρ1:=[a,.ls es,b,c,d,.im (.lst (R.map sT)),.im (sT r),s7,x8,x9,x10,x11,x12,x13]) rfl (show rV (c2 tU (c1 uw aE) aD) sI _=some ([.int ((R.map sT).length+1)],_) from rfl) rfl h4)).trans rfl)).trans ?_;have c1:xK aE oNo (oAt bV) ρ1=some ((R.map sT).take k,ρ1):=by show some (cutD (R.map sT) none (some (k:Int)),ρ1)=_;rw[QQ k hk]
   have c2:xK aE (oAt bV) oNo ρ1=some ((R.map sT).drop k,ρ1):=by show some (cutD (R.map sT) (some (k:Int)) none,ρ1)=_;rw[YF k hk]
   refine(sE (tJ (wZ (tJ (wZ (tJ c1) (tJ (As (ds:=[sT r]) rfl (by show 1<=1000;decide))) ?_)) (tJ c2) ?_))).trans ?_
   ·rw[bw,ah];simp;omega
   ·rw[aC,bw,cg,ah];simp;omega
   ·show some (Out.nx [a,.ls es1,b,c,d,.im (.lst ((R.map sT).take k++[sT r]++(R.map sT).drop k)),.im (sT r),.im (.int k),x8,x9,x10,x11,x12,x13])=_;rw[show (R.map sT).take k++[sT r]++(R.map sT).drop k=R1.map sT by simp[R1,fo,fV]]
  obtain⟨es',R',t6,t7,g1,g2,g3⟩:=Ks (a:=a) (b:=b) (c:=c) (d:=d) (x8:=x8) (x9:=x9) (x10:=x10) (x11:=x11) (x12:=x12) (x13:=x13) l es1 R1 (.im (sT r)) (.im (.int k)) h1 (by omega);refine⟨es',R',t6,t7,g1,g2.trans ((p1.append_right l).trans (by rw[bE];exact km _)),?_⟩;rw[az];unfold forL;rw[show gN 6 (sT r) [a,.ls es,b,c,d,.im (.lst (R.map sT)),s6,s7,x8,x9,x10,x11,x12,x13]=some [a,.ls es,b,c,d,.im (.lst (R.map sT)),.im (sT r),s7,x8,x9,x10,x11,x12,x13] from rfl];simp only[e1];exact g3
def mkT(m:Mk):L4.D:=.tup [.str m.n,.int m.st,.int m.mo]
abbrev lT:=(rV eQ sI)
def mkB:FS:=(r6 (sO 10 (c2 tU aD (tu rY 1 lT)))
 (sY (vX 8 (tL (rV dS (rV (tu rY 1 (rV (c2 tU (cV 10) aD) sI)) (rV (cV 10) sI)))))))
theorem MN:∀(l:aF) (es:List L4.D) (M:List Mk) (s9 s10:Sl),IL es->M.length+l.length<=900->∃(es':List L4.D) (M':List Mk) (t9 t10:Sl),IL es'/\M'.map Mk.n=l/\(∀m∈M',m.ok)/\
  forL (gN 9) mkB (l.map D.str) [a,.ls es,b,c,d,x5,x6,x7,.ls (M.map mkT),s9,s10,x11,x12,x13]=some (.nx [a,.ls es',b,c,d,x5,x6,x7,.ls ((M++M').map mkT),t9,t10,x11,x12,x13])
 |[],es,M,s9,s10,hi,_=>⟨es,[],s9,s10,hi,rfl,λm hm=>(bU hm).elim,by rw[bz];rfl⟩
 |x::l,es,M,s9,s10,hi,hl=>by
  rw[aH]at hl;obtain⟨v,es1,h1,h2,h3,h4⟩:=uv hi 3 (by decide);obtain⟨w,es2,h5,h6,h7,h8⟩:=uv h1 (1+v+1) (by omega);let m:Mk:=⟨x,w,1+v⟩;let ρ1:bg:=[a,.ls es1,b,c,d,x5,x6,x7,.ls (M.map mkT),.im (.str x),.im (.int (1+v)),x11,x12,x13];let ρ2:bg:=[a,.ls es2,b,c,d,x5,x6,x7,.ls (M.map mkT),.im (.str x),.im (.int (1+v)),x11,x12,x13];have e1:mkB [a,.ls es,b,c,d,x5,x6,x7,.ls (M.map mkT),.im (.str x),s10,x11,x12,x13]=some (.nx [a,.ls es2,b,c,d,x5,x6,x7,.ls ((M++[m]).map mkT),.im (.str x),.im (.int (1+v)),x11,x12,x13]):=by unfold mkB;refine(rX (ρ':=ρ1) ((sE (se rfl (vo (es0:=es) (es:=es) (ρ1:=[a,.ls es,b,c,d,x5,x6,x7,.ls (M.map mkT),.im (.str x),s10,x11,x12,x13]) rfl rfl rfl h4) rfl)).trans rfl)).trans ?_;refine(tV (ye (es0:=M.map mkT) (es:=M.map mkT) (ρ1:=ρ2) (d:=mkT m) rfl (uX (rW rfl (rW ((vo (es0:=es1) (es:=es1) (ρ1:=ρ1) rfl (rW (se rfl rfl rfl) rfl) rfl h8).trans rfl) rfl)) (by show 3<=1000;decide)) rfl (by rw[ah];omega))).trans ?_;show some (Out.nx [a,.ls es2,b,c,d,x5,x6,x7,.ls (M.map mkT++[mkT m]),.im (.str x),.im (.int (1+v)),x11,x12,x13])=_;rw[show M.map mkT++[mkT m]=(M++[m]).map mkT by rw[bj];rfl]
  obtain⟨es',M',t9,t10,g1,g2,g3,g4⟩:=MN (a:=a) (b:=b) (c:=c) (d:=d) (x5:=x5) (x6:=x6) (x7:=x7) (x11:=x11) (x12:=x12) (x13:=x13) l es2 (M++[m]) (.im (.str x)) (.im (.int (1+v))) h5 (by rw[aC,bh];omega);refine⟨es',m::M',t9,t10,g1,by rw[az,g2],λy hy=>?_,?_⟩
  ·rcases aN.mp hy with rfl|hy
   ·exact⟨by show 1<=1+v;omega,by show 1+v<=3;omega,h6,by show w<=1+v;omega⟩
   ·exact g3 y hy
  ·rw[az];unfold forL;rw[show gN 9 (.str x) [a,.ls es,b,c,d,x5,x6,x7,.ls (M.map mkT),s9,s10,x11,x12,x13]=some [a,.ls es,b,c,d,x5,x6,x7,.ls (M.map mkT),.im (.str x),s10,x11,x12,x13] from rfl];simp only[e1];rw[g4,bE];rfl
abbrev l5:=(rV bM sI)
abbrev lE:=l5
theorem HN:∀(l:aF) (es:List L4.D),IL es->∃(dk:aF) (es':List L4.D),dk.Sublist l/\IL es'/\
  wX 1 [1] (gN 0) (cT (c2 (dEq false) (tu rY 1 lE) aD)) aa (l.map D.str) [a,.ls es,b,c,d,x5,x6,x7,x8,x9,x10,x11,x12,x13]=some (dk.map D.str,[a,.ls es',b,c,d,x5,x6,x7,x8,x9,x10,x11,x12,x13])
 |[],es,h=>⟨[],es,fg _,h,rfl⟩
 |x::l,es,h=>by
  obtain⟨v,es1,h1,h2,h3,h4⟩:=uv h 2 (by decide);obtain⟨dk,es',g1,g2,g3⟩:=HN (a:=a) (b:=b) (c:=c) (d:=d) (x5:=x5) (x6:=x6) (x7:=x7) (x8:=x8) (x9:=x9) (x10:=x10) (x11:=x11) (x12:=x12) (x13:=x13) l es1 h1;have et:cT (c2 (dEq false) (tu rY 1 lE) aD) [.im (.str x),.pm es]=some (decide (v=1),[.im (.str x),.pm es1]):=tN (se ((vo (es0:=es) (es:=es) (ρ1:=[.im (.str x),.pm es]) rfl rfl rfl h4).trans rfl) rfl (vQ false v 1));have st:wX 1 [1] (gN 0) (cT (c2 (dEq false) (tu rY 1 lE) aD)) aa ((x::l).map D.str) [a,.ls es,b,c,d,x5,x6,x7,x8,x9,x10,x11,x12,x13]=some ((if v=1 then x::dk else dk).map D.str,[a,.ls es',b,c,d,x5,x6,x7,x8,x9,x10,x11,x12,x13]):=by
   rw[az];unfold wX;rw[show gN 0 (.str x) (Bk 1 [1] [a,.ls es,b,c,d,x5,x6,x7,x8,x9,x10,x11,x12,x13])=some [.im (.str x),.pm es] from rfl];simp only[et];have un:vW [1] (([.im (.str x),.pm es1]:bg).drop 1) [a,.ls es,b,c,d,x5,x6,x7,x8,x9,x10,x11,x12,x13]=some [a,.ls es1,b,c,d,x5,x6,x7,x8,x9,x10,x11,x12,x13]:=rfl;by_cases hv:v=1
   ·rw[aj hv,ba hv];simp only;simp only[show cV 0 [.im (.str x),.pm es1]=some (.str x,[.im (.str x),.pm es1]) from rfl,un,g3];rfl
   ·rw[ao hv,aO hv];simp only[un,g3]
  by_cases hv:v=1
  ·rw[aj hv]at st;exact⟨x::dk,es',g1.cons_cons x,g2,st⟩
  ·rw[ao hv]at st;exact⟨dk,es',g1.cons x,g2,st⟩
def moD:L4.D:=.lst [.tup [],.tup [.str "red"],.tup [.str "old", .str "red"]]
theorem T6(j:Nat)(h:j<3):∃m∈HK,dIx moD (.int j)=some (.tup (m.map D.str)):=by
 match j,h with
 |0,_=>exact⟨[],by decide,rfl⟩
 |1,_=>exact⟨["red"],by decide,rfl⟩
 |2,_=>exact⟨["old", "red"],by decide,rfl⟩
def Th.rw(t:Th):Rw:=⟨t.n,t.k,t.s⟩
def wdD(t:Th):L4.D:=.tup (t.w.map D.str)
abbrev lI:=(rV aa sI)
def YH:FE:=(DP (tL lI) (c2 dIx av (tu rY 4 lT)))
theorem Gf:∀(R:List Rw) (es:List L4.D),IL es->∃(T:List Th) (es':List L4.D),T.map Th.rw=R/\(∀t∈T,∃m∈HK,t.w=t.n::m)/\IL es'/\
  wX 3 [12,1] (gT cZ 3) ua YH (R.map sT) [a,.ls es,b,c,d,x5,x6,x7,x8,x9,x10,x11,.im moD,x13]=some (T.map wdD,[a,.ls es',b,c,d,x5,x6,x7,x8,x9,x10,x11,.im moD,x13])
 |[],es,h=>⟨[],es,rfl,λt ht=>(bU ht).elim,h,rfl⟩
 |r::R,es,h=>by
  obtain⟨v,es1,h1,h2,h3,h4⟩:=uv h 3 (by decide);obtain⟨j,rfl⟩:=cz h2;obtain⟨m,hm,em⟩:=T6 j (by omega);obtain⟨T,es',g1,g2,g3,g4⟩:=Gf (a:=a) (b:=b) (c:=c) (d:=d) (x5:=x5) (x6:=x6) (x7:=x7) (x8:=x8) (x9:=x9) (x10:=x10) (x11:=x11) (x13:=x13) R es1 h1;let t:Th:=⟨r.n,r.n::m,r.k,r.s⟩;have hml:m.length<=2:=by
   have:∀m∈HK,bY m<=2:=by decide
   exact this m hm
  refine⟨t::T,es',by rw[az,g1];rfl,λu hu=>?_,g3,?_⟩
  ·rcases aN.mp hu with rfl|hu
   ·exact⟨m,hm,rfl⟩
   ·exact g2 u hu
  ·let ρ2:bg:=[.im (.str r.n),.im (.str r.k.s),.im (oS r.s),.im moD,.pm es];have e1:YH ρ2=some (wdD t,[.im (.str r.n),.im (.str r.k.s),.im (oS r.s),.im moD,.pm es1]):=by have e2:c2 dIx av (tu rY 4 lT) ρ2=some (.tup (m.map D.str),[.im (.str r.n),.im (.str r.k.s),.im (oS r.s),.im moD,.pm es1]):=se rfl ((vo (es0:=es) (es:=es) (ρ1:=ρ2) rfl rfl rfl h4).trans rfl) em;unfold YH DP;rw[show tL lI ρ2=some (.tup [.str r.n],ρ2) from rfl];simp only[e2];rw[aj (by rw[ah];simp;omega)];rfl
   rw[az];unfold wX;rw[show gT cZ 3 (sT r) (Bk 3 [12,1] [a,.ls es,b,c,d,x5,x6,x7,x8,x9,x10,x11,.im moD,x13])=some ρ2 from rfl];simp only[ua,e1];rw[show vW [12,1] (([.im (.str r.n),.im (.str r.k.s),.im (oS r.s),.im moD,.pm es1]:bg).drop 3) [a,.ls es,b,c,d,x5,x6,x7,x8,x9,x10,x11,.im moD,x13]=some [a,.ls es1,b,c,d,x5,x6,x7,x8,x9,x10,x11,.im moD,x13] from rfl];simp only[g4];rfl
def wY(x:Str):Rw:=⟨x,.room,none⟩
theorem T7(N:aF)(h:N.length=17):∃x,N[5]?=some x/\N.take 5++([x]++((N.drop 6).take 7++N.drop 13))=N:=by refine⟨N[5],aP (by omega),?_⟩;rw[show N.drop 13=(N.drop 6).drop 7 by rw[List.drop_drop],jQ,List.singleton_append,<- iG,jQ]
theorem Kt{α:Type}(l:List α){a b:Nat}(h:a<=b):(l.take a).Sublist (l.take b):=by
 have:l.take a=(l.take b).take a:=by rw[List.take_take,eD h]
 rw[this];exact iO _ _
theorem Oj{N:aF}(h:N.length=17)(hy:N[5]?=some y)(hr:r<5)(hq:q<8):((N.take (1+r)++([y]++(N.drop 6).take q))++(N.drop 13).take p).Sublist N:=by obtain⟨x,h1,h2⟩:=T7 N h;rw[hy]at h1;cases h1;rw[bE,bE];have:=(Kt N (show 1+r<=5 by omega)).append ((fg [y]).append ((Kt (N.drop 6) (show q<=7 by omega)).append (iO p (N.drop 13))));rw[h2]at this;exact this
theorem YI{T:List Th}(h:T.map Th.rw=R)(hu:u∈R):∃t∈T,t.rw=u:=by rw[<-h]at hu;exact aK.mp hu
theorem T8(T:List Th)(p:Kd->Bool):(T.filter λt=>p t.k).map Th.rw=(T.map Th.rw).filter λr=>p r.k:=by rw[oj];rfl
theorem T9(hN:Nms N)(hy:N[5]?=some y)(hr:r<5)(hq:q<8)(hp:p<5)(hz:z∈N.take (1+r)){T:List Th}{M:List Mk}{dk:aF}
  (ho:Ord (((N.take (1+r)).map wY++[⟨y,.you,some z⟩])++O)) (hO:O.map Rw.n=(N.drop 6).take q) (hOp:∀u∈O,u.k.pl=true) (hT:(T.map Th.rw).Perm (((N.take (1+r)).map wY++[⟨y,.you,some z⟩])++O)) (hw:∀t∈T,∃m∈HK,t.w=t.n::m)
  (hM:M.map Mk.n=(N.drop 13).take p) (hMo:∀m∈M,m.ok) (hd:dk.Sublist (N.take (1+r))):Good T M dk/\(T.filter λt=>decide (t.k=.you)).map Th.n=[y]:=by
 let B:List Rw:=((N.take (1+r)).map wY++[⟨y,.you,some z⟩])++O;have hl:(N.take (1+r)).length=1+r:=by rw[bw,hN.len];omega
 have hOl:O.length=q:=by have:=aU bY hO;rw[ah,bw,cg,hN.len]at this;omega
 have hMl:M.length=min p 4:=by have:=aU bY hM;rw[ah,bw,cg,hN.len]at this;exact this
 have hBl:B.length=1+r+1+q:=by simp only[B,aC,ah,hl,hOl,bh]
 have hTl:T.length=B.length:=by have:=hT.length_eq;rw[ah]at this;exact this
 have hBn:B.map Rw.n=N.take (1+r)++([y]++(N.drop 6).take q):=by simp only[B,bj,hO,aZ,bE];rw[show (Rw.n∘wY)=id from rfl,px];rfl
 have hTn:T.map Th.n=(T.map Th.rw).map Rw.n:=by rw[aZ];rfl
 have perm:(T.map Th.n++M.map Mk.n).Perm ((N.take (1+r)++([y]++(N.drop 6).take q))++(N.drop 13).take p):=by rw[hTn,hM,<- hBn];exact(hT.map Rw.n).append_right _
 have sub:=Oj hN.len hy hr hq (p:=p);have nd:(T.map Th.n++M.map Mk.n).Nodup:=perm.nodup_iff.mpr (hN.nd.sublist sub);have nm:∀x∈T.map Th.n++M.map Mk.n,Nm x:=λx hx=>hN.nm x (sub.subset (perm.subset hx));have back:∀u∈B,∃t∈T,t.rw=u:=λu hu=>YI rfl (hT.mem_iff.mpr hu);have fwd:∀t∈T,Jc B t.rw:=λt ht=>ho.all _ (hT.mem_iff.mp (cA ht));have filt:∀pp:Kd->Bool,((T.filter λt=>pp t.k).map Th.rw).Perm (B.filter λu=>pp u.k):=λpp=>by rw[T8];exact hT.filter _
 have fl:∀pp:Kd->Bool,(T.filter λt=>pp t.k).length=(B.filter λu=>pp u.k).length:=λpp=>by have:=(filt pp).length_eq;rw[ah]at this;exact this
 have allF:∀(pp:Kd->Bool) (l:List Rw),(∀u∈l,pp u.k=false)->(l.filter λu=>pp u.k)=[]:=λpp l h=>jM.mpr λu hu=>by rw[h u hu];exact bA
 have rooms:∀(pp:Kd->Bool),∀u∈(N.take (1+r)).map wY,pp u.k=pp .room:=λpp u hu=>by obtain⟨x,_,rfl⟩:=aK.mp hu;rfl
 have oth:∀u∈O,decide (u.k=.room)=false/\decide (u.k=.you)=false:=λu hu=>by have:=hOp u hu;refine⟨aO λh=>?_,aO λh=>?_⟩<;>rw[h]at this<;>cases this
 have fB:∀pp:Kd->Bool,(B.filter λu=>pp u.k)=((N.take (1+r)).map wY).filter (λu=>pp u.k)++([⟨y,.you,some z⟩]:List Rw).filter (λu=>pp u.k)++O.filter (λu=>pp u.k):=λpp=>by simp only[B,m9]
 have one:∀(pp:Kd->Bool) (b:Bool),pp .you=b->([⟨y,.you,some z⟩]:List Rw).filter (λu=>pp u.k)=if b then [⟨y,.you,some z⟩]else []:=λpp b h=>by rw[dD,jb];show (if pp .you=true then _ else _)=_;rw[h]
 have gr:∀pp:Kd->Bool,pp .room=true->pp .you=false->(∀u∈O,pp u.k=false)->(B.filter λu=>pp u.k)=(N.take (1+r)).map wY:=λpp h1 h2 h3=>by rw[fB pp,allF pp O h3,jY.mpr λu hu=>(rooms pp u hu).trans h1,one pp false h2];simp
 have gy:∀pp:Kd->Bool,pp .room=false->pp .you=true->(∀u∈O,pp u.k=false)->(B.filter λu=>pp u.k)=[⟨y,.you,some z⟩]:=λpp h1 h2 h3=>by rw[fB pp,allF pp O h3,allF pp _ λu hu=>(rooms pp u hu).trans h1,one pp true h2];rfl
 have gp:∀pp:Kd->Bool,pp .room=false->pp .you=false->(∀u∈O,pp u.k=true)->(B.filter λu=>pp u.k)=O:=λpp h1 h2 h3=>by rw[fB pp,jY.mpr h3,allF pp _ λu hu=>(rooms pp u hu).trans h1,one pp false h2];rfl
 have fr:=gr (λk=>decide (k=.room)) rfl rfl λu hu=>(oth u hu).1;have fy:=gy (λk=>decide (k=.you)) rfl rfl λu hu=>(oth u hu).2;have fp:=gp Kd.pl rfl rfl hOp;have ndT:(T.map Th.n).Nodup:=(cc.mp nd).1;obtain⟨rk,hk⟩:=ho.rank ((hT.map Rw.n).nodup_iff.mp (by rw[<-hTn];exact ndT));have inR:∀x∈N.take (1+r),x∈rmN T:=λx hx=>by obtain⟨t,ht,e⟩:=back (wY x) (bK _ (bK _ (cA hx)));have h1:t.n=x:=aU Rw.n e;have h2:t.k=.room:=aU Rw.k e;exact aK.mpr ⟨t,bO.mpr ⟨ht,ba h2⟩,h1⟩
 refine⟨{
  len:=by omega
  r1:=by have:=fl λk=>decide (k=.room);rw[fr,ah,hl]at this;omega
  r5:=by have:=fl λk=>decide (k=.room);rw[fr,ah,hl]at this;omega
  y1:=by have:=fl λk=>decide (k=.you);rw[fy]at this;exact this
  p7:=by have:=fl Kd.pl;rw[fp,hOl]at this;omega
  m4:=by omega
  mo:=hMo
  nm:=nm
  nd:=nd
  st:=λt ht=>?_
  rk:=⟨rk,λt ht=>?_⟩
  wd:=λt ht=>⟨nm _ (bK _ (cA ht)),hw t ht⟩
  d0:=by have:=hd.length_le;omega
  d1:=(hN.nd.sublist (iO _ _)).sublist hd
  d2:=λx hx=>inR x (hd.subset hx) },?_⟩
 ·obtain⟨n,w,k,s⟩:=t;rcases fwd _ ht with ⟨h1,h2⟩|⟨h1,u,hu,h2,h3⟩|⟨h1,u,hu,h2,h3⟩
  ·cases h1;cases h2;trivial
  ·cases h1;cases h2;obtain⟨t',ht',e⟩:=back u hu;refine aK.mpr ⟨t',bO.mpr ⟨ht',ba ?_⟩,aU Rw.n e⟩;rw[<-h3];exact aU Rw.k e
  ·obtain⟨t',ht',e⟩:=back u hu;have mem:u.n∈hdN T:=aK.mpr ⟨t',bO.mpr ⟨ht',by rw[<-h3];exact aU Kd.hd (aU Rw.k e)⟩,aU Rw.n e⟩;have h2':s=some u.n:=h2;subst h2';have h1':k.pl=true:=h1;cases k with
   |room=>cases h1'
   |you=>cases h1'
   |plain=>exact mem
   |fixed=>exact mem
   |box=>exact mem
   |lamp=>exact mem
 ·obtain⟨h1,h2⟩:=hk t.rw (hT.mem_iff.mp (cA ht));refine⟨by rw[hTl];exact h1,λpq hpq=>?_⟩;obtain⟨h3,u,hu,h4⟩:=h2 pq hpq;obtain⟨t',ht',e⟩:=back u hu;exact⟨h3,t',ht',by rw[<-h4,<- e];rfl⟩
 ·have h:=filt λk=>decide (k=.you);rw[fy]at h;have e:=List.perm_singleton.mp h;have:=aU (pF Rw.n) e;rw[aZ]at this;exact this
def sS(T:List Th)(M:List Mk)(dk:aF)(y:Str):L4.D:=.dic [kS "rows", kS "marks", kS "dark", kS "words", kS "you"] [.lst (T.map λt=>sT t.rw),.lst (M.map mkT),.lst (dk.map D.str),.lst (T.map wdD),.str y]
theorem Ol:∀l:aF,Ord (l.map wY):=λl=>by
 suffices h:∀(l k:aF),Ord (k.map wY)->Ord ((k++l).map wY) from h l [] .nil
 intro l
 induction l with
 |nil=>intro k h;rw[bz];exact h
 |cons x l ih=>
  intro k h;have:=ih (k++[x]) (by rw[bj];exact h.snoc (.inl ⟨rfl,rfl⟩))
  rwa [bE]at this
theorem A0(h:e ρ=some (.lst ds,ρ1)):iL e ρ=some (ds,ρ1):=by unfold iL;rw[h]
theorem Et(h1:f ρ=some (d,ρ1))(h2:w5 r ρ1=some (ds,ρ2)):w5 ((x,f)::r) ρ=some (d::ds,ρ2):=by unfold w5;rw[h1];simp only[h2]
theorem MO(h:w5 kfs ρ=some (ds,ρ1)):za kfs ρ=some (.dic (kfs.map λq=>kS q.1) ds,ρ1):=by unfold za;rw[h];rfl
theorem mut1(h:rY es [.int n]=some (.int v,es')):tu rY 1 (rV (cC (.int n)) sI) [a,.ls es,b2,b3,b4,b5,b6,b7,b8,b9,b10,b11,b12,b13]=some (.int v,[a,.ls es',b2,b3,b4,b5,b6,b7,b8,b9,b10,b11,b12,b13]):=
 (vo (es0:=es) (es:=es) (ρ1:=[a,.ls es,b2,b3,b4,b5,b6,b7,b8,b9,b10,b11,b12,b13]) rfl rfl rfl h).trans rfl
abbrev lU:=(rV av sI)
theorem Ua(c:Int):∃T M dk y,AR [.int c]=some (sS T M dk y)/\Good T M dk/\(T.filter λt=>decide (t.k=.you)).map Th.n=[y]:=by
 obtain⟨es0,i0,d0⟩:=Kp c 110 (by decide);obtain⟨N,es1,hN,i1,d1⟩:=QO i0;obtain⟨r,es2,i2,r0,r1,d2⟩:=uv i1 5 (by decide);obtain⟨r,rfl⟩:=cz r0;have hr:r<5:=by omega
 let rooms:=N.take (1+r);have hl:rooms.length=1+r:=by simp only[rooms];rw[bw,hN.len];omega
 obtain⟨i,es3,i3,j0,j1,d3⟩:=uv i2 rooms.length (by omega);obtain⟨i,rfl⟩:=cz j0;have hi:i<rooms.length:=by omega
 have h5:5<N.length:=by rw[hN.len];decide
 let y:=N[5];let z:=rooms[i];have hz:z∈rooms:=dh hi;let B:List Rw:=rooms.map wY++[⟨y,.you,some z⟩];have hB:Ord B:=(Ol rooms).snoc (.inr (.inl ⟨rfl,wY z,cA hz,rfl,rfl⟩));obtain⟨q,es4,O,hq,i4,hO,hOn,hOp,d4⟩:=Oi hN B i3 hB (rooms:=rooms) (by omega) λx hx=>by
  rcases bC.mp hx with hx|hx
  ·exact⟨wY x,bK _ (cA hx),rfl,rfl⟩
  ·rw[aR]at hx;exact⟨⟨y,.you,some z⟩,bS _ (aR.mpr rfl),hx.symm,rfl⟩
 have hOl:O.length<=7:=by have:=aU bY hOn;rw[ah,bw]at this;omega
 have hBl:B.length<=6:=by simp only[B,aC,ah,bh];omega
 obtain⟨es5,R,t6,t7,i5,hR,d5⟩:=Ks (a:=.im (.int c)) (b:=.im (.lst (N.map D.str))) (c:=.im (.lst (rooms.map D.str))) (d:=.im (.lst (B.map sT))) (x8:=.un) (x9:=.un) (x10:=.un) (x11:=.un) (x12:=.un) (x13:=.un) (B++O) es4 [] .un .un i4 (by rw[aC];simp;omega);rw[bP]at hR;obtain⟨p,es6,i6,p0,p1,d6⟩:=uv i5 5 (by decide);obtain⟨p,rfl⟩:=cz p0;obtain⟨es7,M,t9,t10,i7,hMn,hMo,d7⟩:=MN (a:=.im (.int c)) (b:=.im (.lst (N.map D.str))) (c:=.im (.lst (rooms.map D.str))) (d:=.im (.lst (B.map sT))) (x5:=.im (.lst (R.map sT))) (x6:=t6) (x7:=t7) (x11:=.un) (x12:=.un) (x13:=.un) ((N.drop 13).take p) es6 [] .un .un i6 (by rw[bw,cg,hN.len];simp;omega);rw[bP]at d7;obtain⟨dk,es8,hdk,i8,d8⟩:=HN (a:=.im (.int c)) (b:=.im (.lst (N.map D.str))) (c:=.im (.lst (rooms.map D.str))) (d:=.im (.lst (B.map sT))) (x5:=.im (.lst (R.map sT))) (x6:=t6) (x7:=t7) (x8:=.ls (M.map mkT)) (x9:=t9) (x10:=t10) (x11:=.un) (x12:=.un) (x13:=.un) rooms es7 i7;obtain⟨T,es9,hT,hw,i9,d9⟩:=Gf (a:=.im (.int c)) (b:=.im (.lst (N.map D.str))) (c:=.im (.lst (rooms.map D.str))) (d:=.im (.lst (B.map sT))) (x5:=.im (.lst (R.map sT))) (x6:=t6) (x7:=t7) (x8:=.ls (M.map mkT)) (x9:=t9) (x10:=t10) (x11:=.im (.lst (dk.map D.str))) (x13:=.un) R es8 i8;obtain⟨g1,g2⟩:=T9 hN (aP h5) hr hq (by omega) hz hO hOn hOp (hT▸hR) hw hMn hMo hdk;refine⟨T,M,dk,y,sv (ρ:=[.im (.int c),.ls es9,.im (.lst (N.map D.str)),.im (.lst (rooms.map D.str)),.im (.lst (B.map sT)),.im (.lst (R.map sT)),t6,t7,.im (.lst (M.map mkT)),t9,t10,.im (.lst (dk.map D.str)),.im moD,.im (.lst (T.map wdD))]) rfl ?_,g1,g2⟩;unfold AQ;refine(rX (ρ':=[.im (.int c),.ls es0,.un,.un,.un,.un,.un,.un,.un,.un,.un,.un,.un,.un]) ((zy (rZ (ds:=[.int c,.int 110]) rfl d0)).trans rfl)).trans ?_;refine(rX (ρ':=[.im (.int c),.ls es1,.im (.lst (N.map D.str)),.un,.un,.un,.un,.un,.un,.un,.un,.un,.un,.un]) ((sE (vo (es0:=es0) (es:=es0) (ds:=[]) (ρ1:=[.im (.int c),.ls es0,.un,.un,.un,.un,.un,.un,.un,.un,.un,.un,.un,.un]) rfl rfl rfl d1)).trans rfl)).trans ?_;have cutE:∀{lo hi:FO} {ρ ρ1 ρ2:bg} {l h:Option Int},cV 2 ρ=some (.lst (N.map D.str),ρ)->lo ρ=some (l,ρ1)->hi ρ1=some (h,ρ2)->xK ar lo hi ρ=some (cutD (N.map D.str) l h,ρ2):=λ{lo hi ρ ρ1 ρ2 l h} h1 h2 h3=>by unfold xK;simp only[h1,h2,h3]
 have addE:∀{k:Nat} {v:Nat} {n:Int} {ρ ρ1:bg},tu rY 1 (rV (cC (.int n)) sI) ρ=some (.int v,ρ1)->oAt (c2 tU (cC (.int k)) (tu rY 1 (rV (cC (.int n)) sI))) ρ=some (some ((k+v:Nat):Int),ρ1):=λ{k v n ρ ρ1} h=>by unfold oAt;rw[se (g:=tU) (x:=.int k) (z:=.int ((k+v:Nat):Int)) rfl h (by show some (D.int ((k:Int)+(v:Int)))=_;congr 2)]
 refine(rX (ρ':=[.im (.int c),.ls es2,.im (.lst (N.map D.str)),.im (.lst (rooms.map D.str)),.un,.un,.un,.un,.un,.un,.un,.un,.un,.un]) ((sE (tJ (cutE rfl rfl (addE (k:=1) (v:=r) (mut1 d2))))).trans ?_)).trans ?_
 ·rw[QQ (1+r) (by rw[ah,hN.len];omega),<- fo];rfl
 let ρ3:List L4.D->bg:=λes=>[.im (.int c),.ls es,.im (.lst (N.map D.str)),.im (.lst (rooms.map D.str)),.un,.un,.un,.un,.un,.un,.un,.un,.un,.un];refine(rX (ρ':=[.im (.int c),.ls es3,.im (.lst (N.map D.str)),.im (.lst (rooms.map D.str)),.im (.lst (B.map sT)),.un,.un,.un,.un,.un,.un,.un,.un,.un]) ((sE (tJ (wZ (xs:=rooms.map λx=>sT (wY x)) (ys:=[sT ⟨y,.you,some z⟩]) (ρ1:=ρ3 es2) (ρ2:=ρ3 es3)
  (tJ (Ah D.str (λx=>sT (wY x)) rooms rfl (by omega) λx _=>⟨_,_,rfl,rfl,rfl⟩))
  (tJ (As (rW (uX (ds:=[.str y,.str "you", .str z]) (rW (se rfl rfl (vc (j:=5) (aP h5))) (rW rfl (rW (se (ρ1:=ρ3 es2) (x:=.lst (rooms.map D.str)) (y:=.int i) rfl ((vo (i:=1) (es0:=es2) (es:=es2) (ρ1:=ρ3 es2) (ds:=[.int rooms.length]) rfl (by show some ([D.int ((rooms.map D.str).length:Nat)],_)=_;rw[ah]) rfl d3).trans rfl) (vc (aP hi))) rfl))) (by show 3<=1000;decide)) rfl) (by show 1<=1000;decide))) (by rw[ah];simp;omega)))).trans ?_)).trans ?_
 ·show some (Out.nx [.im (.int c),.ls es3,.im (.lst (N.map D.str)),.im (.lst (rooms.map D.str)),.im (.lst ((rooms.map λx=>sT (wY x))++[sT ⟨y,.you,some z⟩])),.un,.un,.un,.un,.un,.un,.un,.un,.un])=_;rw[show (rooms.map λx=>sT (wY x))++[sT ⟨y,.you,some z⟩]=B.map sT by simp only[B,bj,aZ];rfl]
 refine(rX (ρ':=[.im (.int c),.ls es3,.im (.lst (N.map D.str)),.im (.lst (rooms.map D.str)),.im (.lst (B.map sT)),.im (.lst []),.un,.un,.un,.un,.un,.un,.un,.un]) rfl).trans ?_;let ρ5:List L4.D->bg:=λes=>[.im (.int c),.ls es,.im (.lst (N.map D.str)),.im (.lst (rooms.map D.str)),.im (.lst (B.map sT)),.im (.lst []),.un,.un,.un,.un,.un,.un,.un,.un];refine(rX ((ug (ds:=(B++O).map sT) (ρ1:=ρ5 es4) ?_).trans d5)).trans ?_
 ·have em:uc vg 1 (rV ar lU) (ρ5 es3)=some (.lst (O.map sT),ρ5 es4):=by
   unfold uc;show (match vg es3 [.lst (N.map D.str),.lst (rooms.map D.str)]with
    |some (d,es')=>some (d,putAt (ρ5 es3) 1 es')
    |none=>none)=_
   rw[d4];rfl
  exact(A0 (tJ (wZ (xs:=B.map sT) (ys:=O.map sT) rfl em (by rw[ah,ah];omega)))).trans (by rw[<-bj])
 refine(rX (ρ':=[.im (.int c),.ls es5,.im (.lst (N.map D.str)),.im (.lst (rooms.map D.str)),.im (.lst (B.map sT)),.im (.lst (R.map sT)),t6,t7,.ls [],.un,.un,.un,.un,.un]) rfl).trans ?_;refine(rX ((ug (ds:=((N.drop 13).take p).map D.str) (ρ1:=[.im (.int c),.ls es6,.im (.lst (N.map D.str)),.im (.lst (rooms.map D.str)),.im (.lst (B.map sT)),.im (.lst (R.map sT)),t6,t7,.ls [],.un,.un,.un,.un,.un]) ?_).trans d7)).trans ?_
 ·refine(A0 (tJ (cutE (l:=some ((13:Nat):Int)) rfl rfl (addE (k:=13) (v:=p) (mut1 d6))))).trans ?_;have ec:cutD (N.map D.str) (some ((13:Nat):Int)) (some ((13+p:Nat):Int))=((N.drop 13).take p).map D.str:=by rw[MM 13 p (by rw[ah,hN.len];omega),fo,fV]
  rw[ec]
 refine(rX (ρ':=[.im (.int c),.ls es8,.im (.lst (N.map D.str)),.im (.lst (rooms.map D.str)),.im (.lst (B.map sT)),.im (.lst (R.map sT)),t6,t7,.ls (M.map mkT),t9,t10,.im (.lst (dk.map D.str)),.un,.un]) ((sE (tJ ((zB (ds:=rooms.map D.str) (ρ1:=[.im (.int c),.ls es7,.im (.lst (N.map D.str)),.im (.lst (rooms.map D.str)),.im (.lst (B.map sT)),.im (.lst (R.map sT)),t6,t7,.ls (M.map mkT),t9,t10,.un,.un,.un]) rfl (by rw[ah];omega)).trans d8))).trans rfl)).trans ?_;refine(rX (ρ':=[.im (.int c),.ls es8,.im (.lst (N.map D.str)),.im (.lst (rooms.map D.str)),.im (.lst (B.map sT)),.im (.lst (R.map sT)),t6,t7,.ls (M.map mkT),t9,t10,.im (.lst (dk.map D.str)),.im moD,.un]) rfl).trans ?_;have hRl:R.length<=900:=by have:=hR.length_eq;rw[aC]at this;omega
 refine(rX (ρ':=[.im (.int c),.ls es9,.im (.lst (N.map D.str)),.im (.lst (rooms.map D.str)),.im (.lst (B.map sT)),.im (.lst (R.map sT)),t6,t7,.ls (M.map mkT),t9,t10,.im (.lst (dk.map D.str)),.im moD,.im (.lst (T.map wdD))]) ((sE (tJ ((zB (ds:=R.map sT) (ρ1:=[.im (.int c),.ls es8,.im (.lst (N.map D.str)),.im (.lst (rooms.map D.str)),.im (.lst (B.map sT)),.im (.lst (R.map sT)),t6,t7,.ls (M.map mkT),t9,t10,.im (.lst (dk.map D.str)),.im moD,.un]) rfl (by rw[ah];omega)).trans d9))).trans rfl)).trans ?_;refine sH ?_;have eN:c2 dIx ar dR [.im (.int c),.ls es9,.im (.lst (N.map D.str)),.im (.lst (rooms.map D.str)),.im (.lst (B.map sT)),.im (.lst (R.map sT)),t6,t7,.im (.lst (M.map mkT)),t9,t10,.im (.lst (dk.map D.str)),.im moD,.im (.lst (T.map wdD))]=some (.str y,[.im (.int c),.ls es9,.im (.lst (N.map D.str)),.im (.lst (rooms.map D.str)),.im (.lst (B.map sT)),.im (.lst (R.map sT)),t6,t7,.im (.lst (M.map mkT)),t9,t10,.im (.lst (dk.map D.str)),.im moD,.im (.lst (T.map wdD))]):=se rfl rfl (vc (j:=5) (aP h5));have eT:R.map sT=T.map λt=>sT t.rw:=by rw[<-hT,aZ];rfl
 unfold sS;rw[<-eT];exact MO (Et rfl (Et rfl (Et rfl (Et rfl (Et eN rfl)))))
theorem QR:∀T:List Th,Ci (T.map λt=>sT t.rw) (T.map wdD)=T.map λt=>D.tup [sT t.rw,wdD t]
 |[]=>rfl
 |t::T=>by have:=QR T;unfold Ci at this ⊢;rw[az,az,eU,this];rfl
theorem Ub(g:Good T M dk):AU [sS T M dk y]=some (wyT T):=by
 have hl:=g.len;let sp:=sS T M dk y;let ρ:bg:=[.im sp,.im (.lst ((rmN T).map D.str))];have hn:1<=(rmN T).length:=by have:=g.r1;unfold rmN;rw[ah];exact this
 have h5:(rmN T).length<=5:=by have:=g.r5;unfold rmN;rw[ah];exact this
 have h0:dIx (.lst ((rmN T).map D.str)) (.int 0)=some (.str ((rmN T).headD "")):=by
  refine vc (j:=0) ?_;cases e:rmN T with
  |nil=>rw[e]at hn;cases hn
  |cons a r=>rfl
 have h1:dIx (.lst ((rmN T).map D.str)) (.int (((rmN T).length:Int) - 1))=some (.str ((rmN T).getLastD "")):=by
  rw[show ((rmN T).length:Int) - 1=(((rmN T).length - 1:Nat):Int) by omega];refine vc ?_;have hz:rmN T≠[]:=λe=>by rw[e]at hn;cases hn
  rw[ml,List.getLast?_eq_getElem?,aP (by omega)];rfl
 refine zC (ρ:=ρ) rfl ?_;unfold AS;have c:=wV (k:=3) (cap:=[]) (g:=gT cZ 3) (ft:=cT (c2 (dEq false) af ig)) (fe:=cV 0) (s:=iL (c2 tq aa (cC (.str "rows")))) (λt:Th=>sT t.rw) (λt=>D.str t.n) (λt=>decide (t.k=.room)) T (ρ:=[.im sp,.un]) (ρ1:=[.im sp,.un]) rfl (by omega) λt _=>⟨[.im (.str t.n),.im (.str t.k.s),.im (oS t.s)],[.im (.str t.n),.im (.str t.k.s),.im (oS t.s)],rfl,tN (se rfl rfl (F5 t.k .room)),λ_=>⟨_,rfl,rfl⟩,λ_=>rfl⟩
 refine(rX (ρ':=ρ) ((sE (tJ c)).trans ?_)).trans ?_
 ·have:((T.filter λt=>decide (t.k=.room)).map λt=>D.str t.n)=(rmN T).map D.str:=by unfold rmN;rw[aZ];rfl
  rw[this];rfl
 have el:c1 uw af ρ=some (.int ((rmN T).length:Int),ρ):=tQ rfl (by show some (D.int _)=_;rw[ah]);refine zz (As (rW (uX (rW (se rfl rfl h0) (rW rfl (rW (se (ρ1:=ρ) rfl (se el rfl rfl) h1) (rW rfl rfl)))) (bT rfl)) (rW (uX (rW (se (ρ1:=ρ) rfl rfl h0) (rW rfl (rW (se rfl rfl h0) (rW rfl rfl)))) (bT rfl)) rfl)) (bT rfl))
theorem QS(g:Good T M dk)(hy:(T.filter λt=>decide (t.k=.you)).map Th.n=[y])(emo:u9 [TD T,MD M]=some mo):zV [sS T M dk y]=some (.obj 14 wNs (wDs T M dk y mo)):=by
 have e:=QL g y hy emo;have hl:=g.len;have hm:=g.m4;let sp:=sS T M dk y;refine sv (ρ:=[.im sp,.im (TD T),.im (MD M)]) rfl ?_;unfold zU;refine(rX (ρ':=[.im sp,.im (TD T),.un]) ((sE (tJ (Ah (λt=>D.tup [sT t.rw,wdD t]) thD T (ρ1:=[.im sp,.un,.un]) ?_ (by omega) λt _=>⟨[.im (sT t.rw),.im (wdD t)],[.im (sT t.rw),.im (wdD t)],rfl,rfl,rfl⟩))).trans rfl)).trans ?_
 ·show some (Ci (T.map λt=>sT t.rw) (T.map wdD),[Sl.im sp,.un,.un])=_;rw[QR]
 refine(rX (ρ':=[.im sp,.im (TD T),.im (MD M)]) ((sE (tJ (Ah mkT mkD M (ρ1:=[.im sp,.im (TD T),.un]) rfl (by omega) λm _=>⟨[.im (.str m.n),.im (.int m.st),.im (.int m.mo)],[.im (.str m.n),.im (.int m.st),.im (.int m.mo)],rfl,rfl,rfl⟩))).trans rfl)).trans ?_;exact sH (IK (g:=λds=>wH (ds++[])) (ds:=[TD T,MD M,.lst (dk.map D.str),.lst (wyT T),.lst [],.lst []]) (rW rfl (rW rfl (rW rfl (rW (tJ (rZ (ds:=[sp]) rfl (Ub g))) rfl)))) e)
def nmK(T:List Th)(p:Kd->Bool):aF:=(T.filter λt=>p t.k).map Th.n
theorem of_ok{T:List Th}(hl:T.length<=900){K:L4.D}(p:Kd->Bool)(hp:∀k:Kd,dIn false (.str k.s) K=some (.bl (p k))):tR [sS T M dk y,K]=some ((nmK T p).map D.str):=by
 let sp:=sS T M dk y;refine zC (ρ:=[.im sp,.im K]) rfl ?_;have:=wV (k:=3) (cap:=[1]) (g:=gT cZ 3) (ft:=cT (c2 (dIn false) af av)) (fe:=cV 0) (s:=iL (c2 tq aa (cC (.str "rows")))) (λt:Th=>sT t.rw) (λt=>D.str t.n) (λt=>p t.k) T (ρ:=[.im sp,.im K]) (ρ1:=[.im sp,.im K]) rfl (by omega) λt _=>⟨[.im (.str t.n),.im (.str t.k.s),.im (oS t.s),.im K],[.im (.str t.n),.im (.str t.k.s),.im (oS t.s),.im K],rfl,tN (se rfl rfl (hp t.k)),λ_=>⟨_,rfl,rfl⟩,λ_=>rfl⟩
 refine zz (this.trans ?_);unfold nmK;rw[aZ];rfl
theorem QT(k:Kd):dIn false (.str k.s) (.lst [.str "box"])=some (.bl (decide (k=.box))):=by cases k<;>kernel_rfl
theorem aaC(k:Kd):dIn false (.str k.s) (.lst [.str "box", .str "lamp"])=some (.bl k.mk):=by cases k<;>kernel_rfl
theorem aaD(k:Kd):dIn false (.str k.s) (.lst [.str "room", .str "you"])=some (.bl !k.pl):=by cases k<;>kernel_rfl
theorem Uc(k:Kd):dIn false (.str k.s) (.lst [.str "room"])=some (.bl (decide (k=.room))):=by cases k<;>kernel_rfl
def Kd.ot:Kd->Bool
 |.plain=>true|.fixed=>true|.lamp=>true|_=>false
theorem aaE(k:Kd):dIn false (.str k.s) (.lst [.str "plain", .str "fixed", .str "lamp"])=some (.bl k.ot):=by cases k<;>kernel_rfl
theorem ue(T:List Th)(p:Kd->Bool):(nmK T p).Sublist (T.map Th.n):=rR _ List.filter_sublist
abbrev dcI(V:List (Str×Int)):L4.D:=.dic (V.map λq=>kS q.1) (V.map λq=>D.int q.2)
def moL(T:List Th)(M:List Mk):List (Str×Int):=((nmK T Kd.mk).map λx=>(x,(1:Int)))++M.map λm=>(m.n,m.mo)
theorem Gg(g:Good T M dk):∃V:List (Str×Int),u0 [sS T M dk y]=some (dcI V)/\V.map aG=nmK T Kd.mk++M.map Mk.n/\(∀q∈V,1<=q.2)/\V=moL T M:=by
 have hl:=g.len;have hm:=g.m4;let sp:=sS T M dk y;have nd:(nmK T Kd.mk++M.map Mk.n).Nodup:=g.nd.sublist ((ue T _).append (fg _));have ndk:(((nmK T Kd.mk).map kS)++M.map λm=>kS m.n).Nodup:=by have:=w9 nd;rw[bj,aZ]at this;exact this
 have hln:(nmK T Kd.mk).length<=200:=by have:=(ue T Kd.mk).length_le;rw[ah]at this;omega
 obtain⟨s2,e1⟩:=zl (g:=gN 2) (i:=1) (fk:=cV 2) (fv:=cC (.int 1)) D.str id (λ_=>D.int 1) (λks ds s=>[.im sp,.dk ks ds,s,.un,.un])
  (λx ks ds s=>⟨[.im sp,.dk ks ds,.im (.str x),.un,.un],rfl,rfl,rfl,rfl,λks' ds'=>⟨_,rfl⟩⟩) (nmK T Kd.mk) [] [] .un (by rw[bP];exact(cc.mp ndk).1) (by simp;omega) rfl
 rw[bP,bP]at e1;have gen:∀(l:List Mk) (ks:List Key) (ds:List L4.D) (a b c:Sl),(ks++l.map λm=>kS m.n).Nodup->ks.length+l.length<=1000->ds.length=ks.length->∃a' b' c',forL (gT lS 3) (tW 1 ar aw) (l.map mkT) [.im sp,.dk ks ds,a,b,c]=some (.nx [.im sp,.dk (ks++l.map λm=>kS m.n) (ds++l.map λm=>D.int m.mo),a',b',c']):=by
  intro l
  induction l with
  |nil=>intro ks ds a b c _ _ _;exact⟨a,b,c,by rw[bL,bL,bL,bz,bz];rfl⟩
  |cons m l ih=>
   intro ks ds a b c nd hl he;rw[aH]at hl;have hn:kS m.n∉ks:=λz=>by rw[cc]at nd;exact nd.2.2 _ z _ (by rw[az];exact aY) rfl
   obtain⟨a',b',c',h⟩:=ih (ks++[kS m.n]) (ds++[.int m.mo]) (.im (.str m.n)) (.im (.int m.st)) (.im (.int m.mo)) (by rw[bE];exact nd) (by rw[aC,bh];omega) (by rw[aC,aC,he,bh,bh]);refine⟨a',b',c',?_⟩;rw[az];unfold forL;rw[show gT lS 3 (mkT m) [.im sp,.dk ks ds,a,b,c]=some [.im sp,.dk ks ds,.im (.str m.n),.im (.int m.st),.im (.int m.mo)] from rfl];simp only[AZ (i:=1) (fk:=cV 2) (fv:=cV 4) (ρ:=[.im sp,.dk ks ds,.im (.str m.n),.im (.int m.st),.im (.int m.mo)]) (x:=m.n) (d:=.int m.mo) rfl rfl rfl hn (by omega) he];refine h.trans ?_;rw[az,az,bE,bE];rfl
 obtain⟨a',b',c',e2⟩:=gen M ((nmK T Kd.mk).map kS) ((nmK T Kd.mk).map λ_=>D.int 1) s2 .un .un ndk (by rw[ah];omega) (by rw[ah,ah]);let V:List (Str×Int):=((nmK T Kd.mk).map λx=>(x,(1:Int)))++M.map λm=>(m.n,m.mo);refine⟨V,sv (ρ:=[.im sp,.im (dcI V),a',b',c']) rfl ?_,?_,λq hq=>?_,rfl⟩
 ·unfold zW;refine(rX (ρ':=[.im sp,.dk [] [],.un,.un,.un]) rfl).trans ?_;refine(rX ((ug (A0 (tJ (rZ (rW rfl (rW rfl rfl)) (of_ok (by omega) Kd.mk aaC))))).trans e1)).trans ?_;refine(rX ((ug rfl).trans e2)).trans ?_;have q1:V.map (λq=>kS q.1)=(nmK T Kd.mk).map kS++M.map λm=>kS m.n:=by simp only[V,bj,aZ];rfl
  have q2:V.map (λq=>D.int q.2)=((nmK T Kd.mk).map λ_=>D.int 1)++M.map λm=>D.int m.mo:=by simp only[V,bj,aZ];rfl
  unfold dcI;rw[q1,q2];rfl
 ·simp only[V,bj,aZ];rw[show (aG∘λx:Str=>(x,(1:Int)))=id from rfl,px];rfl
 ·rcases bC.mp hq with h|h
  ·obtain⟨x,_,rfl⟩:=aK.mp h;exact pj _
  ·obtain⟨m,h1,rfl⟩:=aK.mp h;exact(g.mo m h1).1
theorem LI(h:e ρ=some (.dic ks ds,ρ1)):iIt e ρ=some (Ci (ks.map Lk) ds,ρ1):=by unfold iIt;rw[h]
theorem DF:∀V:List (Str×Int),Ci ((V.map λq=>kS q.1).map Lk) (V.map λq=>D.int q.2)=V.map λq=>D.tup [.str q.1,.int q.2]
 |[]=>rfl
 |q::V=>by have:=DF V;unfold Ci at this ⊢;rw[az,az,az,eU,this];rfl
abbrev lH:=(rV (c2 tU aw aD) sI)
theorem QU(g:Good T M dk)(hi:IL es):∃(V:List (Str×Int)) (es':List L4.D),IL es'/\vT es [sS T M dk y]=some (dcI V,es')/\V.map aG=nmK T Kd.mk++M.map Mk.n/\∀p∈V,∃q∈moL T M,p.1=q.1/\0<=p.2/\p.2<=q.2:=by
 obtain⟨V0,e0,n0,p0,w0⟩:=Gg (y:=y) g;let sp:=sS T M dk y;have nd:(nmK T Kd.mk++M.map Mk.n).Nodup:=g.nd.sublist ((ue T _).append (fg _));have hln:V0.length<=204:=by have h1:=aU bY n0;have h2:=(ue T Kd.mk).length_le;have h3:=g.len;have h4:=g.m4;rw[ah,aC,ah]at h1;rw[ah]at h2;omega
 have gen:∀(l:List (Str×Int)) (es:List L4.D) (ks:List Key) (ds:List L4.D) (a b:Sl),IL es->(∀q∈l,1<=q.2)->(ks++l.map λq=>kS q.1).Nodup->ks.length+l.length<=1000->ds.length=ks.length->∃(V:List (Str×Int)) (es':List L4.D) (a' b':Sl),IL es'/\V.map aG=l.map aG/\(∀p∈V,∃q∈l,p.1=q.1/\0<=p.2/\p.2<=q.2)/\
   forL (gT jv 2) (tW 2 av (tu rY 1 lH)) (l.map λq=>D.tup [.str q.1,.int q.2]) [.im sp,.pm es,.dk ks ds,a,b]=some (.nx [.im sp,.pm es',.dk (ks++V.map λq=>kS q.1) (ds++V.map λq=>D.int q.2),a',b']):=by
  intro l
  induction l with
  |nil=>intro es ks ds a b hi _ _ _ _;exact⟨[],es,a,b,hi,rfl,λp hp=>(bU hp).elim,by rw[bL,bL,bL,bz,bz];rfl⟩
  |cons q l ih=>
   intro es ks ds a b hi hp nd hl he;rw[aH]at hl;have hq:=hp q aY;obtain⟨v,es1,h1,hv0,hv1,h4⟩:=uv hi (q.2+1) (by omega);have hn:kS q.1∉ks:=λz=>by rw[cc]at nd;exact nd.2.2 _ z _ (by rw[az];exact aY) rfl
   obtain⟨V,es',a',b',g1,g2,gw,g3⟩:=ih es1 (ks++[kS q.1]) (ds++[.int v]) (.im (.str q.1)) (.im (.int q.2)) h1 (λq hq=>hp q (bo _ hq)) (by rw[bE];exact nd) (by rw[aC,bh];omega) (by rw[aC,aC,he,bh,bh]);refine⟨(q.1,v)::V,es',a',b',g1,by rw[az,az,g2],λp hp=>?_,?_⟩
   ·rcases aN.mp hp with rfl|hp
    ·exact⟨q,aY,rfl,hv0,by show v<=q.2;omega⟩
    ·obtain⟨q',c1,c2⟩:=gw p hp;exact⟨q',bo _ c1,c2⟩
   rw[az];unfold forL;rw[show gT jv 2 (.tup [.str q.1,.int q.2]) [.im sp,.pm es,.dk ks ds,a,b]=some [.im sp,.pm es,.dk ks ds,.im (.str q.1),.im (.int q.2)] from rfl];have ev:tu rY 1 lH [.im sp,.pm es,.dk ks ds,.im (.str q.1),.im (.int q.2)]=some (.int v,[.im sp,.pm es1,.dk ks ds,.im (.str q.1),.im (.int q.2)]):=(vo (es0:=es) (es:=es) (ρ1:=[.im sp,.pm es,.dk ks ds,.im (.str q.1),.im (.int q.2)]) rfl (rW (se rfl rfl rfl) rfl) rfl h4).trans rfl;have st:tW 2 av (tu rY 1 lH) [.im sp,.pm es,.dk ks ds,.im (.str q.1),.im (.int q.2)]=some (.nx [.im sp,.pm es1,.dk (ks++[kS q.1]) (ds++[.int v]),.im (.str q.1),.im (.int q.2)]):=by have:=AZ (i:=2) (fk:=cV 3) (fv:=cC (.int v)) (ρ:=[.im sp,.pm es1,.dk ks ds,.im (.str q.1),.im (.int q.2)]) (x:=q.1) (d:=.int v) rfl rfl rfl hn (by omega) he;unfold tW at this ⊢;rw[ev];exact this
   simp only[st];refine g3.trans ?_;rw[az,az,bE,bE];rfl
 have ndV:(([]:List Key)++V0.map λq=>kS q.1).Nodup:=by have:=w9 (l:=V0.map aG) (by rw[n0];exact nd);rw[aZ]at this;rw[bP];exact this
 obtain⟨V,es',a',b',g1,g2,gw,g3⟩:=gen V0 es [] [] .un .un hi p0 ndV (by simp;omega) rfl;rw[bP,bP]at g3;refine⟨V,es',g1,?_,by rw[g2,n0],λp hp=>w0▸gw p hp⟩;have run:xR (stL 5 es [sp])=some (.rt (dcI V) [.im sp,.pm es',.im (dcI V),a',b']):=by unfold xR;refine(rX (ρ':=[.im sp,.pm es,.dk [] [],.un,.un]) rfl).trans ?_;refine(rX ((ug (ds:=V0.map λq=>D.tup [.str q.1,.int q.2]) (ρ1:=[.im sp,.pm es,.dk [] [],.un,.un]) ?_).trans g3)).trans rfl;exact(LI (rZ (g:=u0) (ds:=[sp]) (ρ1:=[.im sp,.pm es,.dk [] [],.un,.un]) rfl e0)).trans (by rw[DF])
 unfold vT fnL;rw[aj (show [sp].length=1 from rfl),run];rfl
abbrev atD(A:List (Str×Str)):L4.D:=.dic (A.map λq=>kS q.1) (A.map λq=>D.str q.2)
structure Pl(y:Str)(rm:aF)(A:List (Str×Str))(Hs:aF)(rk:Str->Nat)(m:Nat):Prop where
 nd:(A.map aG).Nodup
 lt:∀q∈A,rk q.2<rk q.1/\rk q.1<m
 vh:∀q∈A,q.2∈Hs
 hs:∀h∈Hs,rk h<m
 ry:rk y=1
 rr:∀x∈rm,rk x=0
theorem Pl.add{rm:aF}(P:Pl y rm A Hs rk m)(hh:h∈Hs)(h1:x∉A.map aG)(h2:x∉Hs)(h3:x≠y)(h4:x∉rm)(Hs':aF)(hH:∀z∈Hs',z∈Hs\/z=x)(hS:∀z∈Hs,z∈Hs'):
  ∃rk',Pl y rm (A++[(x,h)]) Hs' rk' (m+1):=by
 have ne:∀z∈Hs,z≠x:=λz hz e=>h2 (e▸hz);refine⟨λz=>if z=x then m else rk z,?_,λq hq=>?_,λq hq=>?_,λz hz=>?_,?_,λz hz=>?_⟩
 ·rw[bj,cc];refine⟨P.nd,by simp,λa ha b hb=>?_⟩;simp only[az,bL,aR]at hb;subst hb;exact λe=>h1 (e▸ha)
 ·rcases bC.mp hq with hq|hq
  ·obtain⟨a,b⟩:=P.lt q hq;rw[ao (ne _ (P.vh q hq)),ao (show ¬q.1=x from λe=>h1 (e▸cA hq))];exact⟨a,by omega⟩
  ·rw[aR]at hq;subst hq;rw[ao (ne h hh),aj rfl];exact⟨P.hs h hh,by omega⟩
 ·rcases bC.mp hq with hq|hq
  ·exact hS _ (P.vh q hq)
  ·rw[aR]at hq;subst hq;exact hS _ hh
 ·by_cases e:z=x
  ·rw[aj e];omega
  ·rw[ao e];rcases hH z hz with hz|hz
   ·have:=P.hs z hz;omega
   ·exact au hz e
 ·rw[ao (λe=>h3 e.symm)];exact P.ry
 ·rw[ao (show ¬z=x from λe=>h4 (e▸hz))];exact P.rr z hz
theorem Gh{α:Type}:∀(l:List α) (j:Nat) (h:j<l.length),(l[j]::l.eraseIdx j).Perm l
 |a::l,0,_=>km _
 |a::l,j+1,h=>(List.Perm.swap a _ _).trans ((Gh l j (by simpa using h)).cons a)
theorem HP{α β:Type}(f:α->β):∀(l:List α) (j:Nat),(l.map f).eraseIdx j=(l.eraseIdx j).map f
 |[],j=>rfl
 |a::l,0=>rfl
 |a::l,j+1=>by show f a::(l.map f).eraseIdx j=_;rw[HP f l j];rfl
theorem Je(h1:fv ρ=some (d,ρ1))(h2:ρ1[i]?=some (.dk ks ds))(h3:fk ρ1=some (.str x,ρ1))(hn:kS x∉ks)(hl:ks.length<1000)(he:ds.length=ks.length):
  tW i fk fv ρ=some (.nx (ρ1.set i (.dk (ks++[kS x]) (ds++[d])))):=by
 have:=AZ (i:=i) (fk:=fk) (fv:=cC d) (ρ:=ρ1) rfl h2 h3 hn hl he;unfold tW at this ⊢;rw[h1];exact this
theorem LJ{A:List (Str×Str)}(h:x∉A.map aG):kS x∉A.map λq=>kS q.1:=λz=>by obtain⟨q,hq,e⟩:=aK.mp z;exact h (aK.mpr ⟨q,hq,F9 e⟩)
abbrev dkA(A:List (Str×Str)):Sl:=.dk (A.map λq=>kS q.1) (A.map λq=>D.str q.2)
theorem Gi(A:List (Str×Str))(x h:Str):Sl.dk ((A.map λq=>kS q.1)++[kS x]) ((A.map λq=>D.str q.2)++[.str h])=dkA (A++[(x,h)]):=by unfold dkA;rw[bj,bj];rfl
theorem Bf:∀xs:aF,Dk (xs.map D.str)=some (xs.map L3.Dq.str)
 |[]=>rfl
 |x::xs=>by rw[az];unfold Dk;rw[Bf xs];rfl
theorem Ku(x:Str)(xs:aF):dEq true (.lst ((x::xs).map D.str)) (.lst [])=some (.bl true):=by
 have e0:Dl true (.lst ((x::xs).map D.str)) (.lst [])=none:=rfl;have e1:toD (.lst ((x::xs).map D.str))=some (.lst ((x::xs).map L3.Dq.str)):=by unfold toD;rw[Bf]
 have e3:dpt (.lst ((x::xs).map L3.Dq.str))=1:=by rw[dpt,y4]
 unfold dEq;rw[e0];show Dm true _ _=_;unfold Dm;rw[e1,show toD (.lst [])=some (.lst []) from rfl];show (if GZ (.lst ((x::xs).map L3.Dq.str)) (.lst [])&&decide (dpt (.lst ((x::xs).map L3.Dq.str))<=20)&&decide (dpt (.lst [])<=20)then some (D.bl !(eqD (.lst ((x::xs).map L3.Dq.str)) (.lst [])))else none)=_;rw[e3];rfl
def UR:FT:=Br (cT (c2 (dEq true) aw (cL (sN sI))))
abbrev lJ:=(rV (Ce (c1 uw av)) sI)
def QV:FS:=(r6 (sO 5 (BN 4 (tu rY 1 jH)))
 (r6 (tW 2 aE (Dg 3 (tu rY 1 lJ)))
 (sY (vX 3 aE))))
theorem Kv(sp:L4.D)(y:Str)(rm:aF):∀(n:Nat) (bx:aF) (es:List L4.D) (A:List (Str×Str)) (Hs:aF) (rk:Str->Nat) (m f:Nat) (s5:Sl),bx.length=n->n<f->IL es->Pl y rm A Hs rk m->Hs≠[]->bx.Nodup->(∀b∈bx,b∉A.map aG/\b∉Hs/\b≠y/\b∉rm)->A.length+n<=900->Hs.length+n<=900->
  ∃(es':List L4.D) (A':List (Str×Str)) (Hs':aF) (rk':Str->Nat) (t5:Sl),IL es'/\Pl y rm A' Hs' rk' (m+n)/\(∀z∈Hs',z∈Hs\/z∈bx)/\(∀z∈Hs,z∈Hs')/\(∀z∈A'.map aG,z∈A.map aG\/z∈bx)/\A'.length=A.length+n/\Hs'.length<=Hs.length+n/\
   whL UR QV f [.im sp,.pm es,dkA A,.ls (Hs.map D.str),.ls (bx.map D.str),s5,.un,.un]=some (.nx [.im sp,.pm es',dkA A',.ls (Hs'.map D.str),.ls [],t5,.un,.un])
 |0,bx,es,A,Hs,rk,m,f+1,s5,hb,_,hi,P,_,_,_,_,_=>by
  cases bx with
  |cons b bx=>cases hb
  |nil=>exact⟨es,A,Hs,rk,s5,hi,P,λz hz=>.inl hz,λz hz=>hz,λz hz=>.inl hz,rfl,aI _,rfl⟩
 |n+1,bx,es,A,Hs,rk,m,f+1,s5,hb,hf,hi,P,h0,nd,fr,hA,hHl=>by
  obtain⟨v,es1,i1,v0,v1,d1⟩:=uv hi bx.length (by omega);obtain⟨j,rfl⟩:=cz v0;have hj:j<bx.length:=by omega
  let b:=bx[j];let bx':=bx.eraseIdx j;have perm:(b::bx').Perm bx:=Gh bx j hj;have ndb:(b::bx').Nodup:=perm.nodup_iff.mpr nd;have hbm:b∈bx:=dh hj;obtain⟨f1,f2,f3,f4⟩:=fr b hbm;have hbl:bx'.length=n:=by have:=perm.length_eq;rw[aH]at this;omega
  let ρ1:bg:=[.im sp,.pm es1,dkA A,.ls (Hs.map D.str),.ls (bx'.map D.str),.im (.str b),.un,.un];obtain⟨h,es2,hh,i2,d2⟩:=Jd (ρ:=ρ1) (i:=1) (j:=3) i1 h0 rfl rfl rfl (λ_=>rfl);obtain⟨rk1,P1⟩:=P.add hh f1 f2 f3 f4 (Hs++[b]) (λz hz=>by
   rcases bC.mp hz with hz|hz
   ·exact .inl hz
   ·exact .inr (aR.mp hz)) λz hz=>bK _ hz
  obtain⟨es',A',Hs',rk',t5,g1,g2,g3,g4,g5,g6,g7,g8⟩:=Kv sp y rm n bx' es2 (A++[(b,h)]) (Hs++[b]) rk1 (m+1) f (.im (.str b)) hbl (by omega) i2 P1 (by simp) (cj.mp ndb).2 (λc hc=>by
   obtain⟨q1,q2,q3,q4⟩:=fr c (perm.subset (bo _ hc));have ne:c≠b:=λe=>(cj.mp ndb).1 (e▸hc);refine⟨λz=>?_,λz=>?_,q3,q4⟩
   ·rw[bj]at z;rcases bC.mp z with z|z
    ·exact q1 z
    ·exact ne (by simpa using z)
   ·rcases bC.mp z with z|z
    ·exact q2 z
    ·exact ne (aR.mp z)) (by rw[aC,bh];omega) (by rw[aC,bh];omega)
  refine⟨es',A',Hs',rk',t5,g1,by rw[show m+(n+1)=m+1+n by omega];exact g2,λz hz=>?_,λz hz=>g4 z (bK _ hz),λz hz=>?_,by rw[g6,aC,bh];omega,by rw[aC,bh]at g7;omega,?_⟩
  ·rcases g3 z hz with h|h
   ·rcases bC.mp h with h|h
    ·exact .inl h
    ·exact .inr (by rw[aR.mp h];exact hbm)
   ·exact .inr (perm.subset (bo _ h))
  ·rcases g5 z hz with h|h
   ·rw[bj]at h;rcases bC.mp h with h|h
    ·exact .inl h
    ·exact .inr (by rw[show z=b by simpa using h];exact hbm)
   ·exact .inr (perm.subset (bo _ h))
  ·have et:UR [.im sp,.pm es,dkA A,.ls (Hs.map D.str),.ls (bx.map D.str),s5,.un,.un]=some (true,[.im sp,.pm es,dkA A,.ls (Hs.map D.str),.ls (bx.map D.str),s5,.un,.un]):=by
    cases hx:bx with
    |nil=>rw[hx]at hb;cases hb
    |cons c bc=>exact Iw (ρ1:=[.im sp,.im (.lst es),.un,.im (.lst (Hs.map D.str)),.im (.lst ((c::bc).map D.str)),s5.bor,.un,.un]) (tN (se rfl rfl (Ku c bc)))
   have ep:BN 4 (tu rY 1 jH) [.im sp,.pm es,dkA A,.ls (Hs.map D.str),.ls (bx.map D.str),s5,.un,.un]=some (.str b,[.im sp,.pm es1,dkA A,.ls (Hs.map D.str),.ls (bx'.map D.str),s5,.un,.un]):=by have e1:Ce (c1 uw aw) [.im sp,.pm es,dkA A,.ls (Hs.map D.str),.ls (bx.map D.str),s5,.un,.un]=some (.int bx.length,[.im sp,.pm es,dkA A,.ls (Hs.map D.str),.ls (bx.map D.str),s5,.un,.un]):=PJ (ρ1:=[.im sp,.im (.lst es),.un,.im (.lst (Hs.map D.str)),.im (.lst (bx.map D.str)),s5.bor,.un,.un]) (tQ (x:=.lst (bx.map D.str)) rfl (by show some (D.int _)=_;rw[ah])) rfl;have e2:tu rY 1 jH [.im sp,.pm es,dkA A,.ls (Hs.map D.str),.ls (bx.map D.str),s5,.un,.un]=some (.int j,[.im sp,.pm es1,dkA A,.ls (Hs.map D.str),.ls (bx.map D.str),s5,.un,.un]):=(vo (es0:=es) (es:=es) (ρ1:=[.im sp,.pm es,dkA A,.ls (Hs.map D.str),.ls (bx.map D.str),s5,.un,.un]) rfl (rW e1 rfl) rfl d1).trans rfl;unfold BN;rw[show uq [.im sp,.pm es,dkA A,.ls (Hs.map D.str),.ls (bx.map D.str),s5,.un,.un] 4=some (bx.map D.str) from rfl];simp only[e2];rw[show uq [.im sp,.pm es1,dkA A,.ls (Hs.map D.str),.ls (bx.map D.str),s5,.un,.un] 4=some (bx.map D.str) from rfl];simp only;rw[aj (by omega),iP,bB,aP hj];show (if (j:Int)<1000000 then some (D.str b,[Sl.im sp,.pm es1,dkA A,.ls (Hs.map D.str),.ls ((bx.map D.str).eraseIdx j),s5,.un,.un])else none)=_;rw[aj (by omega),HP]
   have e3:QV [.im sp,.pm es,dkA A,.ls (Hs.map D.str),.ls (bx.map D.str),s5,.un,.un]=some (.nx [.im sp,.pm es2,dkA (A++[(b,h)]),.ls ((Hs++[b]).map D.str),.ls (bx'.map D.str),.im (.str b),.un,.un]):=by
    unfold QV;refine(rX (ρ':=ρ1) ((sE ep).trans rfl)).trans ?_;refine(rX (ρ':=[.im sp,.pm es2,dkA (A++[(b,h)]),.ls (Hs.map D.str),.ls (bx'.map D.str),.im (.str b),.un,.un]) ((Je (x:=b) d2 rfl rfl (LJ f1) (by rw[ah];omega) (by rw[ah,ah])).trans ?_)).trans ?_
    ·show some (Out.nx [.im sp,.pm es2,Sl.dk ((A.map λq=>kS q.1)++[kS b]) ((A.map λq=>D.str q.2)++[.str h]),.ls (Hs.map D.str),.ls (bx'.map D.str),.im (.str b),.un,.un])=_;rw[Gi]
    ·refine(tV (ye (es0:=Hs.map D.str) (es:=Hs.map D.str) (ρ1:=[.im sp,.pm es2,dkA (A++[(b,h)]),.ls (Hs.map D.str),.ls (bx'.map D.str),.im (.str b),.un,.un]) (d:=.str b) rfl rfl rfl (by rw[ah];omega))).trans ?_;show some (Out.nx [.im sp,.pm es2,dkA (A++[(b,h)]),.ls (Hs.map D.str++[.str b]),.ls (bx'.map D.str),.im (.str b),.un,.un])=_;rw[show Hs.map D.str++[D.str b]=(Hs++[b]).map D.str by rw[bj];rfl]
   unfold whL;rw[et];simp only[e3];exact g8
theorem Kw(sp:L4.D)(y:Str)(rm:aF)(s4 s5:Sl):∀(l:aF) (es:List L4.D) (A:List (Str×Str)) (Hs:aF) (rk:Str->Nat) (m:Nat) (s6:Sl),IL es->Pl y rm A Hs rk m->Hs≠[]->l.Nodup->(∀b∈l,b∉A.map aG/\b∉Hs/\b≠y/\b∉rm)->A.length+l.length<=900->
  ∃(es':List L4.D) (A':List (Str×Str)) (rk':Str->Nat) (t6:Sl),IL es'/\Pl y rm A' Hs rk' (m+l.length)/\(∀z∈A'.map aG,z∈A.map aG\/z∈l)/\A'.length=A.length+l.length/\
   forL (gN 6) (tW 2 bf (Dg 3 (tu rY 1 lJ))) (l.map D.str) [.im sp,.pm es,dkA A,.ls (Hs.map D.str),s4,s5,s6,.un]=some (.nx [.im sp,.pm es',dkA A',.ls (Hs.map D.str),s4,s5,t6,.un])
 |[],es,A,Hs,rk,m,s6,hi,P,_,_,_,_=>⟨es,A,rk,s6,hi,P,λz hz=>.inl hz,rfl,rfl⟩
 |b::l,es,A,Hs,rk,m,s6,hi,P,h0,nd,fr,hA=>by
  rw[aH]at hA;obtain⟨f1,f2,f3,f4⟩:=fr b aY;let ρ1:bg:=[.im sp,.pm es,dkA A,.ls (Hs.map D.str),s4,s5,.im (.str b),.un];obtain⟨h,es2,hh,i2,d2⟩:=Jd (ρ:=ρ1) (i:=1) (j:=3) hi h0 rfl rfl rfl (λ_=>rfl);obtain⟨rk1,P1⟩:=P.add hh f1 f2 f3 f4 Hs (λz hz=>.inl hz) λz hz=>hz;obtain⟨es',A',rk',t6,g1,g2,g5,g6,g8⟩:=Kw sp y rm s4 s5 l es2 (A++[(b,h)]) Hs rk1 (m+1) (.im (.str b)) i2 P1 h0 (cj.mp nd).2 (λc hc=>by
   obtain⟨q1,q2,q3,q4⟩:=fr c (bo _ hc);have ne:c≠b:=λe=>(cj.mp nd).1 (e▸hc);refine⟨λz=>?_,q2,q3,q4⟩;rw[bj]at z;rcases bC.mp z with z|z
   ·exact q1 z
   ·exact ne (by simpa using z)) (by rw[aC,bh];omega)
  refine⟨es',A',rk',t6,g1,by rw[aH,show m+(l.length+1)=m+1+l.length by omega];exact g2,λz hz=>?_,by rw[g6,aC,bh,aH];omega,?_⟩
  ·rcases g5 z hz with h|h
   ·rw[bj]at h;rcases bC.mp h with h|h
    ·exact .inl h
    ·exact .inr (by rw[show z=b by simpa using h];exact aY)
   ·exact .inr (bo _ h)
  ·rw[az];unfold forL;rw[show gN 6 (.str b) [.im sp,.pm es,dkA A,.ls (Hs.map D.str),s4,s5,s6,.un]=some ρ1 from rfl];have st:tW 2 bf (Dg 3 (tu rY 1 lJ)) ρ1=some (.nx [.im sp,.pm es2,dkA (A++[(b,h)]),.ls (Hs.map D.str),s4,s5,.im (.str b),.un]):=by refine(Je (x:=b) d2 rfl rfl (LJ f1) (by rw[ah];omega) (by rw[ah,ah])).trans ?_;show some (Out.nx [.im sp,.pm es2,Sl.dk ((A.map λq=>kS q.1)++[kS b]) ((A.map λq=>D.str q.2)++[.str h]),.ls (Hs.map D.str),s4,s5,.im (.str b),.un])=_;rw[Gi]
   simp only[st];exact g8
theorem LK{T:List Th}(nd:(T.map Th.n).Nodup)(ht:t∈T)(hu:u∈T)(e:t.n=u.n):t=u:=by
 induction T with
 |nil=>cases ht
 |cons a T ih=>
  rw[az,cj]at nd;rcases aN.mp ht with h1|h1<;>rcases aN.mp hu with h2|h2
  ·exact h1.trans h2.symm
  ·exact au (show a.n∈T.map Th.n from h1▸e▸cA h2) nd.1
  ·exact au (show a.n∈T.map Th.n from h2▸e▸cA h1) nd.1
  ·exact ih nd.2 h1 h2
theorem yJ(h:x∈nmK T p):∃t∈T,t.n=x/\p t.k=true:=by obtain⟨t,h1,h2⟩:=aK.mp h;obtain⟨h3,h4⟩:=bO.mp h1;exact⟨t,h3,h2,h4⟩
theorem A3{T:List Th}(nd:(T.map Th.n).Nodup)(h:∀k,p k=true->q k=true->False)(h1:x∈nmK T p)(h2:x∈nmK T q):False:=by obtain⟨t,a1,a2,a3⟩:=yJ h1;obtain⟨u,b1,b2,b3⟩:=yJ h2;have:=LK nd a1 b1 (a2.trans b2.symm);subst this;exact h _ a3 b3
theorem LL{T:List Th}{p q:Kd->Bool}(h:∀k,p k=true->q k=true):(nmK T p).length<=(T.filter λt=>q t.k).length:=by unfold nmK;rw[ah,<- iC,<- iC];exact mI λt _ ht=>h _ ht
theorem MP:∀{l L:aF},l.Nodup->(∀x∈l,x∈L)->L.length<=l.length->∀x∈L,x∈l
 |[],L,_,_,hl,x,hx=>by rw[c6,Nat.le_zero,mx]at hl;subst hl;cases hx
 |a::l,L,nd,hs,hl,x,hx=>by
  rw[cj]at nd;have ha:=hs a aY;by_cases e:x=a
  ·rw[e];exact aY
  ·refine bo _ (MP (L:=L.erase a) nd.2 (λz hz=>(mO (show z≠a from λw=>nd.1 (w▸hz))).mpr (hs z (bo _ hz))) ?_ x ((mO e).mpr hx));rw[List.length_erase_of_mem ha];rw[aH]at hl;omega
structure yY(A:List (Str×Str))(y:Str):Prop where
 nd:(A.map aG).Nodup
 rk:∃rk:Str->Nat,∀q∈A,rk q.2<rk q.1/\rk q.1<40
 yo:∃r,(y,r)∈A
 ln:A.length<=20
theorem Om{T:List Th}{M:List Mk}{dk:aF}{y:Str}(g:Good T M dk)(hy:(T.filter λt=>decide (t.k=.you)).map Th.n=[y]){es:List L4.D}(hi:IL es):∃(A:List (Str×Str)) (es':List L4.D),IL es'/\yY A y/\(∀q∈A,q.2∈T.map Th.n)/\((∀x,x∈A.map aG ↔ x∈nmK T λk=>!decide (k=.room))/\(∀q∈A,q.2∈nmK T Kd.hd)/\∀r,(y,r)∈A->r∈nmK T λk=>decide (k=.room))/\uH es [sS T M dk y]=some (atD A,es'):=by
 have hl:=g.len;have nd:=g.ndT;let sp:=sS T M dk y;let rm:=nmK T λk=>decide (k=.room);let bx:=nmK T λk=>decide (k=.box);let ot:=nmK T Kd.ot;let Hs:=nmK T λk=>!k.pl;have hyy:y∈nmK T λk=>decide (k=.you):=by unfold nmK;rw[hy];exact aR.mpr rfl
 have hyH:y∈Hs:=by obtain⟨t,h1,h2,h3⟩:=yJ hyy;refine aK.mpr ⟨t,bO.mpr ⟨h1,?_⟩,h2⟩;rw[bu h3];rfl
 have yrm:∀x∈rm,x≠y:=λx hx e=>A3 nd (λk h1 h2=>by rw[bu h1]at h2;cases h2) (e▸hx) hyy;have P0:Pl y rm [] Hs (λz=>if z=y then 1 else 0) 2:=⟨gZ,λq hq=>(bU hq).elim,λq hq=>(bU hq).elim,λh _=>by split<;>omega,aj rfl,λx hx=>ao (yrm x hx)⟩;have fresh:∀(p:Kd->Bool),(∀k,p k=true->k.pl=true)->∀b∈nmK T p,b∉Hs/\b≠y/\b∉rm:=λp hp b hb=>⟨λz=>A3 nd (λk h1 h2=>by rw[hp k h1]at h2;cases h2) hb z,λe=>A3 nd (λk h1 h2=>by have:=hp k h1;rw[bu h2]at this;cases this) hb (e▸hyy),λz=>A3 nd (λk h1 h2=>by have:=hp k h1;rw[bu h2]at this;cases this) hb z⟩
 have hpb:∀k:Kd,decide (k=.box)=true->k.pl=true:=λk h=>by rw[bu h];rfl
 have hpo:∀k:Kd,k.ot=true->k.pl=true:=λk h=>by cases k<;>first|rfl|cases h
 have hbl:bx.length<=7:=bQ (LL hpb) g.p7;have hol:ot.length<=7:=bQ (LL hpo) g.p7;have hHl:Hs.length<=200:=by have:=(ue T λk=>!k.pl).length_le;rw[ah]at this;exact bQ this hl
 obtain⟨es1,A1,Hs1,rk1,t5,i1,P1,h3,h4,h5,h6,h7,h8⟩:=Kv sp y rm bx.length bx es [] Hs _ 2 50 .un rfl (by omega) hi P0 (λe=>by rw[e]at hyH;cases hyH) (nd.sublist (ue T _)) (λb hb=>⟨λz=>(bU z).elim,fresh _ hpb b hb⟩) (by simp;omega) (by omega);have frO:∀b∈ot,b∉bx:=λb hb z=>A3 nd (λk h1 h2=>by rw[bu h2]at h1;cases h1) hb z;obtain⟨es2,A2,rk2,t6,i2,P2,q5,q6,q8⟩:=Kw sp y rm (.ls []) t5 ot es1 A1 Hs1 rk1 (2+bx.length) .un i1 P1 (λe=>by have:=h4 y hyH;rw[e]at this;cases this) (nd.sublist (ue T _)) (λb hb=>by
  obtain⟨f1,f2,f3⟩:=fresh _ hpo b hb;refine⟨λz=>?_,λz=>?_,f2,f3⟩
  ·rcases h5 b z with z|z
   ·cases z
   ·exact frO b hb z
  ·rcases h3 b z with z|z
   ·exact f1 z
   ·exact frO b hb z) (by rw[h6];simp;omega)
 have hrl:0<rm.length:=by have:=g.r1;simp only[rm,nmK,ah];omega
 obtain⟨v,es3,i3,v0,v1,d3⟩:=uv i2 rm.length (by omega);obtain⟨j,rfl⟩:=cz v0;have hj:j<rm.length:=by omega
 let z:=rm[j];have hz:z∈rm:=dh hj;have hyk:y∉A2.map aG:=λw=>by
  rcases q5 y w with w|w
  ·rcases h5 y w with w|w
   ·cases w
   ·exact(fresh _ hpb y w).2.1 rfl
  ·exact(fresh _ hpo y w).2.1 rfl
 have hA2:A2.length<=14:=by rw[q6,h6];simp;omega
 refine⟨A2++[(y,z)],es3,i3,⟨?_,⟨rk2,λq hq=>?_⟩,⟨z,by simp⟩,by rw[aC,bh];omega⟩,λq hq=>?_,⟨?K,?Hd,?Ry⟩,?_⟩
 ·rw[bj,cc];refine⟨P2.nd,by simp,λa ha b hb=>?_⟩;simp only[az,bL,aR]at hb;subst hb;exact λe=>hyk (e▸ha)
 ·rcases bC.mp hq with hq|hq
  ·obtain⟨a,b⟩:=P2.lt q hq;exact⟨a,by omega⟩
  ·rw[aR]at hq;subst hq;show rk2 z<rk2 y/\rk2 y<40;rw[P2.rr z hz,P2.ry];omega
 ·rcases bC.mp hq with hq|hq
  ·rcases h3 _ (P2.vh q hq)with w|w<;>exact(ue T _).subset w
  ·rw[aR]at hq;subst hq;exact(ue T _).subset hz
 case K=>
  have sub:∀x∈(A2++[(y,z)]).map aG,x∈bx++(ot++[y]):=λx hx=>by
   rw[bj]at hx;rcases bC.mp hx with hx|hx
   ·rcases q5 x hx with w|w
    ·rcases h5 x w with w|w
     ·cases w
     ·exact bK _ w
    ·exact bS _ (bK _ w)
   ·exact bS _ (bS _ hx)
  have nd2:((A2++[(y,z)]).map aG).Nodup:=by rw[bj,cc];refine⟨P2.nd,by simp,λa ha b hb=>?_⟩;simp only[az,bL,aR]at hb;subst hb;exact λe=>hyk (e▸ha)
  have ln:(bx++(ot++[y])).length<=((A2++[(y,z)]).map aG).length:=by rw[ah,aC,aC,aC,q6,h6,c6,bh,bh];omega
  have all:=MP nd2 sub ln;have tok:∀(p:Kd->Bool),(∀k,p k=true->(!decide (k=.room))=true)->∀x∈nmK T p,x∈nmK T λk=>!decide (k=.room):=λp hp x hx=>by obtain⟨t,h1,h2,h3⟩:=yJ hx;exact aK.mpr ⟨t,bO.mpr ⟨h1,hp _ h3⟩,h2⟩
  intro x;constructor
  ·intro hx;rcases bC.mp (sub x hx)with w|w
   ·exact tok _ (λk h=>by rw[bu h];rfl) x w
   ·rcases bC.mp w with w|w
    ·exact tok _ (λk h=>by cases k<;>first|rfl|cases h) x w
    ·rw[aR]at w;rw[w];exact tok _ (λk h=>by rw[bu h];rfl) y hyy
  ·intro hx;obtain⟨t,t1,t2,t3⟩:=yJ hx;apply all;have mk:∀p:Kd->Bool,p t.k=true->x∈nmK T p:=λp h=>aK.mpr ⟨t,bO.mpr ⟨t1,h⟩,t2⟩;cases hk:t.k with
   |room=>rw[hk]at t3;cases t3
   |you=>have:=mk (λk=>decide (k=.you)) (by rw[hk];rfl);unfold nmK at this;rw[hy]at this;exact bS _ (bS _ this)
   |box=>exact bK _ (mk (λk=>decide (k=.box)) (by rw[hk];rfl))
   |plain=>exact bS _ (bK _ (mk Kd.ot (by rw[hk];rfl)))
   |fixed=>exact bS _ (bK _ (mk Kd.ot (by rw[hk];rfl)))
   |lamp=>exact bS _ (bK _ (mk Kd.ot (by rw[hk];rfl)))
 case Hd=>
  have toh:∀(p:Kd->Bool),(∀k,p k=true->k.hd=true)->∀x∈nmK T p,x∈nmK T Kd.hd:=λp hp x hx=>by obtain⟨t,h1,h2,h3⟩:=yJ hx;exact aK.mpr ⟨t,bO.mpr ⟨h1,hp _ h3⟩,h2⟩
  intro q hq;rcases bC.mp hq with hq|hq
  ·rcases h3 _ (P2.vh q hq)with w|w
   ·exact toh _ (λk h=>by cases k<;>first|rfl|cases h) _ w
   ·exact toh _ (λk h=>by rw[bu h];rfl) _ w
  ·rw[aR]at hq;subst hq;exact toh _ (λk h=>by rw[bu h];rfl) _ hz
 case Ry=>
  intro r hr;rcases bC.mp hr with hr|hr
  ·exact au (aK.mpr ⟨_,hr,rfl⟩) hyk
  ·rw[aR]at hr;cases hr;exact hz
 have run:xl (stL 8 es [sp])=some (.rt (atD (A2++[(y,z)])) [.im sp,.pm es3,.im (atD (A2++[(y,z)])),.ls (Hs1.map D.str),.ls [],t5,t6,.im (.lst (rm.map D.str))]):=by
  unfold xl;refine(rX (ρ':=[.im sp,.pm es,.dk [] [],.un,.un,.un,.un,.un]) rfl).trans ?_;refine(rX (ρ':=[.im sp,.pm es,.dk [] [],.ls (Hs.map D.str),.un,.un,.un,.un]) ((zy (rZ (rW rfl (rW rfl rfl)) (of_ok (by omega) (λk=>!k.pl) aaD))).trans rfl)).trans ?_;refine(rX (ρ':=[.im sp,.pm es,.dk [] [],.ls (Hs.map D.str),.ls (bx.map D.str),.un,.un,.un]) ((zy (rZ (rW rfl (rW rfl rfl)) (of_ok (by omega) (λk=>decide (k=.box)) QT))).trans rfl)).trans ?_;refine(rX h8).trans ?_;refine(rX ((ug (A0 (tJ (rZ (rW rfl (rW rfl rfl)) (of_ok (by omega) Kd.ot aaE))))).trans q8)).trans ?_;refine(rX (ρ':=[.im sp,.pm es2,dkA A2,.ls (Hs1.map D.str),.ls [],t5,t6,.im (.lst (rm.map D.str))]) ((sE (tJ (rZ (rW rfl (rW rfl rfl)) (of_ok (by omega) (λk=>decide (k=.room)) Uc)))).trans rfl)).trans ?_;have ev:c2 dIx bV (tu rY 1 (rV (c1 uw bV) sI)) [.im sp,.pm es2,dkA A2,.ls (Hs1.map D.str),.ls [],t5,t6,.im (.lst (rm.map D.str))]=some (.str z,[.im sp,.pm es3,dkA A2,.ls (Hs1.map D.str),.ls [],t5,t6,.im (.lst (rm.map D.str))]):=
   se (x:=.lst (rm.map D.str)) (y:=.int j) (ρ1:=[.im sp,.pm es2,dkA A2,.ls (Hs1.map D.str),.ls [],t5,t6,.im (.lst (rm.map D.str))]) rfl ((vo (i:=1) (es0:=es2) (es:=es2) (ρ1:=[.im sp,.pm es2,dkA A2,.ls (Hs1.map D.str),.ls [],t5,t6,.im (.lst (rm.map D.str))]) (ds:=[.int rm.length]) rfl (by show some ([D.int ((rm.map D.str).length:Nat)],_)=_;rw[ah]) rfl d3).trans rfl) (vc (aP hj))
  refine(rX (ρ':=[.im sp,.pm es3,dkA (A2++[(y,z)]),.ls (Hs1.map D.str),.ls [],t5,t6,.im (.lst (rm.map D.str))]) ((Je (x:=y) ev rfl rfl (LJ hyk) (by rw[ah];omega) (by rw[ah,ah])).trans ?_)).trans rfl;show some (Out.nx [.im sp,.pm es3,Sl.dk ((A2.map λq=>kS q.1)++[kS y]) ((A2.map λq=>D.str q.2)++[.str z]),.ls (Hs1.map D.str),.ls [],t5,t6,.im (.lst (rm.map D.str))])=_;rw[Gi]
 unfold uH fnL;rw[aj (show [sp].length=1 from rfl),run];rfl
theorem LM{α β:Type}{f:α->β}(hf:∀a b,f a=f b->a=b){l:List α}(h:l.Nodup):(l.map f).Nodup:=rP f (λa b h e=>h (hf a b e)) h
abbrev Ky:=Str×Str
def prD(q:Ky×L4.D):L4.D:=.tup [.tup [.str q.1.1,.str q.1.2],q.2]
theorem Ud(a b c d:Str):dEq false (.tup [.str a,.str b]) (.tup [.str c,.str d])=some (.bl (decide ((a,b)=(c,d)))):=by have e0:Dl false (.tup [.str a,.str b]) (.tup [.str c,.str d])=none:=rfl;have e1:Dm false (.tup [.str a,.str b]) (.tup [.str c,.str d])=some (.bl (L3.eqD (.tup [.str a,.str b]) (.tup [.str c,.str d]))):=rfl;unfold dEq;rw[e0];simp only;rw[e1];congr 2;rw[cK];simp[L3.eqD,L3.xC]
theorem Gj(p:Sl)(k:Ky):∀(S:List (Ky×L4.D)) (s:Sl),∃s',(∃d,(k,d)∈S/\forL (gN 2) (sIf (cT (c2 (dEq false) (c2 dIx ar aW) af)) (sy (c2 dIx ar aD)) sF) (S.map prD) [p,.im (.tup [.str k.1,.str k.2]),s]=some (.rt d [p,.im (.tup [.str k.1,.str k.2]),s']))\/
  (k∉S.map aG/\forL (gN 2) (sIf (cT (c2 (dEq false) (c2 dIx ar aW) af)) (sy (c2 dIx ar aD)) sF) (S.map prD) [p,.im (.tup [.str k.1,.str k.2]),s]=some (.nx [p,.im (.tup [.str k.1,.str k.2]),s']))
 |[],s=>⟨s,.inr ⟨bU,rfl⟩⟩
 |q::S,s=>by
  have ev:cT (c2 (dEq false) (c2 dIx ar aW) af) [p,.im (.tup [.str k.1,.str k.2]),.im (prD q)]=some (decide (q.1=k),[p,.im (.tup [.str k.1,.str k.2]),.im (prD q)]):=tN (se (x:=.tup [.str q.1.1,.str q.1.2]) (y:=.tup [.str k.1,.str k.2]) rfl rfl (Ud _ _ _ _));rw[az];unfold forL;rw[show gN 2 (prD q) [p,.im (.tup [.str k.1,.str k.2]),s]=some [p,.im (.tup [.str k.1,.str k.2]),.im (prD q)] from rfl];by_cases h:q.1=k
  ·rw[ba h]at ev;refine⟨.im (prD q),.inl ⟨q.2,by rw[<-h];exact aY,?_⟩⟩;simp only[sP ev];rfl
  ·rw[aO h]at ev;obtain⟨s',h1⟩:=Gj p k S (.im (prD q));simp only[sf ev];refine⟨s',?_⟩;rcases h1 with ⟨d,h1,h2⟩|⟨h1,h2⟩
   ·exact .inl ⟨d,bo _ h1,h2⟩
   ·exact .inr ⟨λz=>by
     rw[az]at z;rcases aN.mp z with z|z
     ·exact h z.symm
     ·exact h1 z,h2⟩
theorem CT(S:List (Ky×L4.D))(k:Ky):(∃d,(k,d)∈S/\yu [.tup (S.map prD),.tup [.str k.1,.str k.2]]=some d)\/(k∉S.map aG/\yu [.tup (S.map prD),.tup [.str k.1,.str k.2]]=some .non):=by
 obtain⟨s',h⟩:=Gj (.im (.tup (S.map prD))) k S .un;rcases h with ⟨d,h1,h2⟩|⟨h1,h2⟩
 ·refine .inl ⟨d,h1,sv rfl (sJ ((ug rfl).trans h2))⟩
 ·refine .inr ⟨h1,sv rfl ((rX ((ug rfl).trans h2)).trans rfl)⟩
def bas(A:List (Str×Str))(V:List (Str×Int)):List (Ky×L4.D):=(A.map λq=>((("at", q.1):Ky),D.str q.2))++V.map λq=>((("mark", q.1):Ky),D.int q.2)
theorem Kx:∀B:List (Ky×L4.D),Ay (B.map prD)=some (B.map λq=>[q.1.1,q.1.2])
 |[]=>rfl
 |q::B=>by rw[az];unfold Ay;rw[Kx B];rfl
theorem LN{α:Type}(d:α):∀l:List α,(bH l.length).map (λi=>l.getD i d)=l:=λl=>by
 apply List.ext_getElem
 ·rw[ah,gV]
 ·intro i h1 h2;rw[List.getElem_map,List.getElem_range,cy,aP h2];rfl
theorem Ue(B:List (Ky×L4.D))(nd:(B.map aG).Nodup)(h0:0<B.length)(h1:B.length<64):∃S:List (Ky×L4.D),S.Perm B/\Hl (B.map prD)=some (S.map prD):=by
 let ks:=B.map λq=>[q.1.1,q.1.2];have hn:ks.Nodup:=by
  have:ks=(B.map aG).map λk=>[k.1,k.2]:=by rw[aZ];rfl
  rw[this];exact LM (λa b h=>by injection h with a1 a2;injection a2 with a2 _;exact pE a1 a2) nd
 let c:Nat->Nat->Bool:=λi j=>Aw (ks.getD i []) (ks.getD j []);refine⟨(J2 c B.length).map λi=>B.getD i (("", ""),.non),?_,?_⟩
 ·have:=(Ds c h0).map λi=>B.getD i (("", ""),.non);rw[LN]at this;exact this
 ·unfold Hl;rw[Kx];simp only[ah];rw[aj ⟨hn,h0,h1⟩,aZ];congr 1;refine List.map_congr_left λi hi=>?_;have hl:=IF c h0 i hi;show (B.map prD).getD i .non=prD (B.getD i (("", ""),.non));rw[cy,cy,bB,aP hl];rfl
theorem Gk:∀V:List (Str×Str),Ci ((V.map λq=>kS q.1).map Lk) (V.map λq=>D.str q.2)=V.map λq=>D.tup [.str q.1,.str q.2]
 |[]=>rfl
 |q::V=>by have:=Gk V;unfold Ci at this ⊢;rw[az,az,az,eU,this];rfl
theorem Ug(h:e ρ=some (.lst ds,ρ1))(h1:Hl ds=some es):FC e ρ=some (es,ρ1):=by unfold FC;rw[h];simp only[h1]
structure DG(A:List (Str×Str))(V:List (Str×Int))(S:List (Ky×L4.D)):Prop where
 i:∀q∈A,((("at", q.1):Ky),D.str q.2)∈S
 o:∀x d,((("at", x):Ky),d)∈S->∃z,d=.str z/\(x,z)∈A
 mi:∀q∈V,((("mark", q.1):Ky),D.int q.2)∈S
 mo:∀x d,((("mark", x):Ky),d)∈S->∃z,d=.int z/\(x,z)∈V
abbrev pT:=(rV (tL (rV (cC (.str "mark")) (rV aa sI))) (rV af sI))
abbrev lK:=(rV af sI)
theorem Kz{V:List (Str×Int)}(a:yY A y)(nv:(V.map aG).Nodup)(lv:V.length<=40):∃S,DG A V S/\xS [atD A,dcI V]=some (.tup (S.map prD)):=by
 have hl:=a.ln;have h0:0<A.length:=by obtain⟨r,h⟩:=a.yo;exact List.length_pos_of_mem h
 have nd:((bas A V).map aG).Nodup:=by
  unfold bas;rw[bj,aZ,aZ,cc];have e1:A.map (aG∘λq=>((("at", q.1):Ky),D.str q.2))=(A.map aG).map λx=>(("at", x):Ky):=by rw[aZ];rfl
  have e2:V.map (aG∘λq=>((("mark", q.1):Ky),D.int q.2))=(V.map aG).map λx=>(("mark", x):Ky):=by rw[aZ];rfl
  rw[e1,e2];refine⟨LM (λa b h=>aU jr h) a.nd,LM (λa b h=>aU jr h) nv,λx hx z hz e=>?_⟩;obtain⟨_,_,rfl⟩:=aK.mp hx;obtain⟨_,_,rfl⟩:=aK.mp hz;have:=aU aG e;exact au this (by decide:¬(("at" : Str)="mark"))
 obtain⟨S,p,e⟩:=Ue (bas A V) nd (by unfold bas;rw[aC,ah];omega) (by unfold bas;rw[aC,ah,ah];omega);refine⟨S,⟨λq hq=>p.mem_iff.mpr (bK _ (aK.mpr ⟨q,hq,rfl⟩)),λx d h=>?_,λq hq=>p.mem_iff.mpr (bS _ (aK.mpr ⟨q,hq,rfl⟩)),λx d h=>?_⟩,?_⟩
 ·rcases bC.mp (p.mem_iff.mp h)with h|h
  ·obtain⟨q,hq,e⟩:=aK.mp h;cases e;exact⟨_,rfl,hq⟩
  ·obtain⟨q,hq,e⟩:=aK.mp h;have:=aU (λz=>z.1.1) e;exact au this (by decide:¬(("mark" : Str)="at"))
 ·rcases bC.mp (p.mem_iff.mp h)with h|h
  ·obtain⟨q,hq,e⟩:=aK.mp h;have:=aU (λz=>z.1.1) e;exact au this (by decide:¬(("at" : Str)="mark"))
  ·obtain⟨q,hq,e⟩:=aK.mp h;cases e;exact⟨_,rfl,hq⟩
 ·let ρ0:bg:=[.im (atD A),.im (dcI V),.un];let pa:Str×Str->L4.D:=λq=>.tup [.tup [.str "at", .str q.1],.str q.2];let pm:Str×Int->L4.D:=λq=>.tup [.tup [.str "mark", .str q.1],.int q.2];let ρ1:bg:=[.im (atD A),.im (dcI V),.im (.lst (A.map pa))];have c1:sR 2 [] (iIt aa) (gT gd 2) ua (tL (rV (tL (rV (cC (.str "at")) lI)) lK)) ρ0=some (A.map pa,ρ0):=by refine(zB (ds:=A.map λq=>D.tup [.str q.1,.str q.2]) (ρ1:=ρ0) ((LI rfl).trans (by rw[Gk])) (by rw[ah];omega)).trans ?_;exact II (λq:Str×Str=>D.tup [.str q.1,.str q.2]) pa A λq _=>⟨[.im (.str q.1),.im (.str q.2)],_,rfl,rfl,rfl⟩
  have c2:sR 2 [] (iIt af) (gT gd 2) ua (tL pT) ρ1=some (V.map pm,ρ1):=by refine(zB (ds:=V.map λq=>D.tup [.str q.1,.int q.2]) (ρ1:=ρ1) ((LI rfl).trans (by rw[DF])) (by rw[ah];omega)).trans ?_;exact II (λq:Str×Int=>D.tup [.str q.1,.int q.2]) pm V λq _=>⟨[.im (.str q.1),.im (.int q.2)],_,rfl,rfl,rfl⟩
  have eb:(bas A V).map prD=A.map pa++V.map pm:=by unfold bas;rw[bj,aZ,aZ];rfl
  have c3:=Ug (e:=cL (uW ar (cL (sR 2 [] (iIt af) (gT gd 2) ua (tL pT))))) (ρ:=ρ1) (tJ (wZ (xs:=A.map pa) rfl (tJ c2) (by rw[ah,ah];omega))) (eb▸e);refine sv (ρ:=ρ1) rfl ((rX (ρ':=ρ1) ((sE (tJ c1)).trans rfl)).trans (sH ?_));unfold G8;rw[tJ c3]
inductive Ch(A:List (Str×Str)):Str->aF->Prop
 |nil {x}:x∉A.map aG->Ch A x []
 |cons {x z l}:(x,z)∈A->Ch A z l->Ch A x (z::l)
theorem Gm(a:yY A y)(x:Str):∃l,Ch A x l/\l.length<=40:=by
 obtain⟨rk,hr⟩:=a.rk;have gen:∀(n:Nat) (x:Str),(x∈A.map aG->rk x<n)->∃l,Ch A x l/\l.length<=n:=by
  intro n
  induction n with
  |zero=>intro x h;exact⟨[],.nil (λz=>au (h z) (by omega)),by simp⟩
  |succ n ih=>
   intro x h;by_cases hx:x∈A.map aG
   ·obtain⟨q,hq,rfl⟩:=aK.mp hx;have:=h hx;obtain⟨l,h1,h2⟩:=ih q.2 λ_=>by have:=(hr q hq).1;omega
    exact⟨q.2::l,.cons hq h1,by rw[aH];omega⟩
   ·exact⟨[],.nil hx,by simp⟩
 exact gen 40 x λh=>by obtain⟨q,hq,rfl⟩:=aK.mp h;exact(hr q hq).2
theorem YJ(c:Ch A x l):∀a∈l,∃q∈A,q.2=a:=by
 induction c with
 |nil _=>intro a h;cases h
 |cons h _ ih=>
  intro a ha;rcases aN.mp ha with e|ha
  ·exact⟨_,h,e.symm⟩
  ·exact ih a ha
theorem MQ{A:List (Str×Str)}(nd:(A.map aG).Nodup)(h:(x,z)∈A)(h':(x,z')∈A):z=z':=by
 induction A with
 |nil=>cases h
 |cons a A ih=>
  rw[az,cj]at nd;rcases aN.mp h with h1|h1<;>rcases aN.mp h' with h2|h2
  ·rw[<-h1]at h2;exact(aU jr h2).symm
  ·exact au (show a.1∈A.map aG from h1▸aK.mpr ⟨_,h2,rfl⟩) nd.1
  ·exact au (show a.1∈A.map aG from h2▸aK.mpr ⟨_,h1,rfl⟩) nd.1
  ·exact ih nd.2 h1 h2
abbrev sD(S:List (Ky×L4.D)):L4.D:=.tup (S.map prD)
abbrev wO(T:List Th)(M:List Mk)(dk:aF)(y:Str)(mo:L4.D):L4.D:=.obj 14 wNs (wDs T M dk y mo)
section
variable{A:List (Str×Str)}{V:List (Str×Int)}{S:List (Ky×L4.D)}{y:Str}{T:List Th}{M:List Mk}{dk:aF}{mo:L4.D}
theorem QW(g:Good T M dk):u9 [TD T,MD M]=some (dcI (moL T M)):=by
 have hl:=g.len;have hm:=g.m4;have nd:(nmK T Kd.mk++M.map Mk.n).Nodup:=g.nd.sublist ((ue T _).append (fg _));have ndk:(((nmK T Kd.mk).map kS)++M.map λm=>kS m.n).Nodup:=by have:=w9 nd;rw[bj,aZ]at this;exact this
 have hln:(nmK T Kd.mk).length<=200:=by have:=(ue T Kd.mk).length_le;rw[ah]at this;omega
 have g1:∀(l:List Th) (ks:List Key) (ds:List L4.D) (s:Sl),(ks++(nmK l Kd.mk).map kS).Nodup->ks.length+l.length<=900->ds.length=ks.length->∃s',forL (gN 3) (sIf (cT (tS uM "has_mark" av sI)) (tW 2 (c1 (sU sZ "name") av) aD) sF) (l.map thD) [.im (TD T),.im (MD M),.dk ks ds,s,.un]=some (.nx [.im (TD T),.im (MD M),.dk (ks++(nmK l Kd.mk).map kS) (ds++(nmK l Kd.mk).map λ_=>D.int 1),s',.un]):=by
  intro l
  induction l with
  |nil=>exact λks ds s _ _ _=>⟨s,by unfold nmK;simp;rfl⟩
  |cons t l ih=>
   intro ks ds s nd hk he;rw[aH]at hk;have em:cT (tS uM "has_mark" av sI) [.im (TD T),.im (MD M),.dk ks ds,.im (thD t),.un]=some (t.k.mk,[.im (TD T),.im (MD M),.dk ks ds,.im (thD t),.un]):=tN (uh (xs:=[.str t.n,.tup (t.w.map D.str),.str t.k.s,oS t.s]) (ys:=[]) rfl rfl rfl rfl (MI t));cases q:t.k.mk with
   |true=>
    rw[q]at em;have e0:nmK (t::l) Kd.mk=t.n::nmK l Kd.mk:=by unfold nmK;rw[dD,q,aj rfl,az]
    rw[e0,az]at nd;rw[e0,az,az];have hn:kS t.n∉ks:=λz=>by rw[cc]at nd;exact nd.2.2 _ z _ aY rfl
    obtain⟨s',h⟩:=ih (ks++[kS t.n]) (ds++[.int 1]) (.im (thD t)) (by rw[bE];exact nd) (by rw[aC,bh];omega) (by rw[aC,aC,he,bh,bh]);refine⟨s',?_⟩;rw[az];unfold forL;rw[show gN 3 (thD t) [.im (TD T),.im (MD M),.dk ks ds,s,.un]=some [.im (TD T),.im (MD M),.dk ks ds,.im (thD t),.un] from rfl];have ev:=(sP (f:=tW 2 (c1 (sU sZ "name") av) aD) (g:=sF) em).trans (AZ (i:=2) (fk:=c1 (sU sZ "name") av) (fv:=cC (.int 1)) (ρ:=[.im (TD T),.im (MD M),.dk ks ds,.im (thD t),.un]) (x:=t.n) (d:=.int 1) rfl rfl (tQ rfl (yW t)) hn (by omega) he);simp only[ev];refine h.trans ?_;rw[bE,bE];rfl
   |false=>
    rw[q]at em;have e0:nmK (t::l) Kd.mk=nmK l Kd.mk:=by unfold nmK;rw[dD,q,ao (by decide)]
    rw[e0]at nd ⊢;obtain⟨s',h⟩:=ih ks ds (.im (thD t)) nd (by omega) he;refine⟨s',?_⟩;rw[az];unfold forL;rw[show gN 3 (thD t) [.im (TD T),.im (MD M),.dk ks ds,s,.un]=some [.im (TD T),.im (MD M),.dk ks ds,.im (thD t),.un] from rfl];have ev:=(sf (f:=tW 2 (c1 (sU sZ "name") av) aD) (g:=sF) em);simp only[ev];exact h
 obtain⟨s1,e1⟩:=g1 T [] [] .un (by rw[bP];exact(cc.mp ndk).1) (by simp;omega) rfl;rw[bP,bP]at e1;obtain⟨s2,e2⟩:=zl (g:=gN 4) (i:=2) (fk:=c1 (sU sZ "name") aw) (fv:=c1 (sU yf "most") aw) mkD Mk.n (λm=>D.int m.mo) (λks ds s=>[.im (TD T),.im (MD M),.dk ks ds,s1,s])
  (λm ks ds s=>⟨[.im (TD T),.im (MD M),.dk ks ds,s1,.im (mkD m)],rfl,tQ rfl (TZ m),rfl,tQ rfl (IY m),λks' ds'=>⟨_,rfl⟩⟩) M ((nmK T Kd.mk).map kS) ((nmK T Kd.mk).map λ_=>D.int 1) .un ndk (by rw[ah];omega) (by rw[ah,ah])
 refine sv (ρ:=[.im (TD T),.im (MD M),.im (dcI (moL T M)),s1,s2]) rfl ?_;unfold xG;refine(rX (ρ':=[.im (TD T),.im (MD M),.dk [] [],.un,.un]) rfl).trans ?_;refine(rX ((ug rfl).trans e1)).trans ((rX ((ug rfl).trans e2)).trans ?_);have q1:(moL T M).map (λq=>kS q.1)=(nmK T Kd.mk).map kS++M.map λm=>kS m.n:=by simp only[moL,bj,aZ];rfl
 have q2:(moL T M).map (λq=>D.int q.2)=((nmK T Kd.mk).map λ_=>D.int 1)++M.map λm=>D.int m.mo:=by simp only[moL,bj,aZ];rfl
 unfold dcI;rw[q1,q2];rfl
abbrev wM(T:List Th)(M:List Mk)(dk:aF)(y:Str):L4.D:=wO T M dk y (dcI (moL T M))
theorem LO{V:List (Str×Int)}(nv:(V.map aG).Nodup)(h:(x,z)∈V):uG (V.map λq=>kS q.1) (V.map λq=>D.int q.2) (kS x)=some (.int z):=
 AA (by have:=w9 nv;rw[aZ]at this;exact this) (by rw[jf];exact aK.mpr ⟨_,h,rfl⟩)
theorem Bh(a:yY A y)(o:DG A V S)(h:(x,z)∈A):vS [sD S,.str x]=some (.str z):=by
 refine sv (ρ:=[.im (sD S),.im (.str x)]) rfl (sH (rZ (ds:=[sD S,.tup [.str "at", .str x]]) (rW rfl (rW rfl rfl)) ?_));rcases CT S ("at", x)with ⟨d,h1,h2⟩|⟨h1,h2⟩
 ·obtain⟨z',rfl,h3⟩:=o.o x d h1;rw[h2,MQ a.nd h3 h]
 ·exact au (aK.mpr ⟨_,o.i _ h,rfl⟩) h1
theorem EN(o:DG A V S)(h:x∉A.map aG):vS [sD S,.str x]=some .non:=by
 refine sv (ρ:=[.im (sD S),.im (.str x)]) rfl (sH (rZ (ds:=[sD S,.tup [.str "at", .str x]]) (rW rfl (rW rfl rfl)) ?_));rcases CT S ("at", x)with ⟨d,h1,h2⟩|⟨h1,h2⟩
 ·obtain⟨z',rfl,h3⟩:=o.o x d h1;exact au (aK.mpr ⟨_,h3,rfl⟩) h
 ·exact h2
abbrev lD:=(rV af l4)
theorem On(a:yY A y)(o:DG A V S)(w nm:Sl)(c:Ch A x l):∀(n:Nat) (hs:List L4.D) (ab:L4.D),vS [sD S,.str x]=some ab->l.length<n->hs.length+l.length<=1000->
  whL (cT (c2 y7 aw bt)) (r6 (sY (vX 3 aw)) (sO 4 (r9 vS lD))) n [w,.im (sD S),nm,.ls hs,.im ab]=some (.nx [w,.im (sD S),nm,.ls (hs++l.map D.str),.im .non]):=by
 induction c with
 |@nil x h=>
  intro n hs ab e hn _;rw[EN o h]at e;cases e;cases n with
  |zero=>cases hn
  |succ n=>rw[bL,bz];rfl
 |@cons x z l h c ih=>
  intro n hs ab e hn hl;rw[Bh a o h]at e;cases e;rw[aH]at hn hl;cases n with
  |zero=>cases hn
  |succ n=>
   obtain⟨ab',e'⟩:∃ab',vS [sD S,.str z]=some ab':=by
    cases c with
    |nil h=>exact⟨_,EN o h⟩
    |cons h _=>exact⟨_,Bh a o h⟩
   have ev:r6 (sY (vX 3 aw)) (sO 4 (r9 vS lD)) [w,.im (sD S),nm,.ls hs,.im (.str z)]=some (.nx [w,.im (sD S),nm,.ls (hs++[.str z]),.im ab']):=by refine(rX (ρ':=[w,.im (sD S),nm,.ls (hs++[.str z]),.im (.str z)]) (tV ((ye (es:=hs) rfl rfl rfl (by omega)).trans rfl))).trans ?_;exact(sE (rZ (rW rfl (rW rfl rfl)) e')).trans rfl
   rw[az];unfold whL;rw[show cT (c2 y7 aw bt) [w,.im (sD S),nm,.ls hs,.im (.str z)]=some (true,[w,.im (sD S),nm,.ls hs,.im (.str z)]) from rfl];simp only[ev];refine(ih n (hs++[.str z]) ab' e' (by omega) (by rw[aC,bh];omega)).trans ?_;rw[bE];rfl
theorem MR(a:yY A y)(o:DG A V S)(w:L4.D)(c:Ch A x l)(hl:l.length<=40):xP [w,sD S,.str x]=some (l.map D.str):=by
 obtain⟨ab,e⟩:∃ab,vS [sD S,.str x]=some ab:=by
  cases c with
  |nil h=>exact⟨_,EN o h⟩
  |cons h _=>exact⟨_,Bh a o h⟩
 refine zC (ρ:=[.im w,.im (sD S),.im (.str x),.un,.im .non]) rfl ?_;refine(rX (ρ':=[.im w,.im (sD S),.im (.str x),.ls [],.un]) rfl).trans ?_;refine(rX (ρ':=[.im w,.im (sD S),.im (.str x),.ls [],.im ab]) ((sE (rZ (rW rfl (rW rfl rfl)) e)).trans rfl)).trans ?_;exact(rX (On a o (.im w) (.im (.str x)) c 50 [] ab e (by omega) (by simp;omega))).trans rfl
theorem ndk(a:yY A y):(A.map λq=>kS q.1).Nodup:=by have:=w9 a.nd;rw[aZ]at this;exact this
theorem Bi(a:yY A y)(h:(x,z)∈A):uG (A.map λq=>kS q.1) (A.map λq=>D.str q.2) (kS x)=some (.str z):=
 AA (ndk a) (by rw[jf];exact aK.mpr ⟨_,h,rfl⟩)
theorem MS(h:x∉A.map aG):uG (A.map λq=>kS q.1) (A.map λq=>D.str q.2) (kS x)=none:=
 Ba λz=>by obtain⟨q,h1,h2⟩:=aK.mp z;exact h (aK.mpr ⟨q,h1,by injection h2⟩)
theorem QX(a:yY A y)(c:Ch A x l):∀(n:Nat) (hs:List L4.D),l.length<n->hs.length+l.length<=1000->∃x',
  whL (cT (c2 (BK false) af aa)) (r6 (sO 1 (c2 tq aa af)) (sY (vX 2 af))) n [.im (atD A),.im (.str x),.ls hs]=some (.nx [.im (atD A),x',.ls (hs++l.map D.str)]):=by
 induction c with
 |@nil x h=>
  intro n hs hn _;cases n with
  |zero=>cases hn
  |succ n=>have ev:cT (c2 (BK false) af aa) [.im (atD A),.im (.str x),.ls hs]=some (false,[.im (atD A),.im (.str x),.ls hs]):=tN (se (x:=.str x) (y:=atD A) rfl rfl (by show some (D.bl (uG _ _ (kS x)).isSome)=_;rw[MS h];rfl));unfold whL;rw[ev];exact⟨_,by rw[bL,bz]⟩
 |@cons x z l h c ih=>
  intro n hs hn hl;rw[aH]at hn hl;cases n with
  |zero=>cases hn
  |succ n=>
   have ev:cT (c2 (BK false) af aa) [.im (atD A),.im (.str x),.ls hs]=some (true,[.im (atD A),.im (.str x),.ls hs]):=tN (se (x:=.str x) (y:=atD A) rfl rfl (by show some (D.bl (uG _ _ (kS x)).isSome)=_;rw[Bi a h];rfl));have eb:r6 (sO 1 (c2 tq aa af)) (sY (vX 2 af)) [.im (atD A),.im (.str x),.ls hs]=some (.nx [.im (atD A),.im (.str z),.ls (hs++[.str z])]):=by refine(rX (ρ':=[.im (atD A),.im (.str z),.ls hs]) ((sE (se (x:=atD A) (y:=.str x) rfl rfl (Bi a h))).trans rfl)).trans ?_;exact tV ((ye (es:=hs) rfl rfl rfl (by omega)).trans rfl)
   obtain⟨x',e⟩:=ih n (hs++[.str z]) (by omega) (by rw[aC,bh];omega);refine⟨x',?_⟩;unfold whL;rw[ev];simp only[eb];rw[e,bE];rfl
theorem KA(a:yY A y)(c:Ch A x l)(hl:l.length<=40):vG [atD A,.str x]=some (l.map D.str):=by obtain⟨x',e⟩:=QX a c 50 [] (by omega) (by simp;omega);refine zC (ρ:=[.im (atD A),x',.un]) rfl ?_;refine(rX (ρ':=[.im (atD A),.im (.str x),.ls []]) rfl).trans ?_;exact(rX e).trans rfl
theorem Jf{V:List (Str×Int)}(nd:(V.map aG).Nodup)(h:(x,z)∈V)(h':(x,z')∈V):z=z':=by
 induction V with
 |nil=>cases h
 |cons a V ih=>
  rw[az,cj]at nd;rcases aN.mp h with h1|h1<;>rcases aN.mp h' with h2|h2
  ·rw[<-h1]at h2;exact(aU jr h2).symm
  ·exact au (show a.1∈V.map aG from h1▸aK.mpr ⟨_,h2,rfl⟩) nd.1
  ·exact au (show a.1∈V.map aG from h2▸aK.mpr ⟨_,h1,rfl⟩) nd.1
  ·exact ih nd.2 h1 h2
theorem Jg(nv:(V.map aG).Nodup)(o:DG A V S)(h:(x,z)∈V):wg [sD S,.str x]=some (.int z):=by
 refine sv (ρ:=[.im (sD S),.im (.str x)]) rfl (sH (rZ (ds:=[sD S,.tup [.str "mark", .str x]]) (rW rfl (rW rfl rfl)) ?_));rcases CT S ("mark", x)with ⟨d,h1,h2⟩|⟨h1,h2⟩
 ·obtain⟨z',rfl,h3⟩:=o.mo x d h1;rw[h2,Jf nv h3 h]
 ·exact au (aK.mpr ⟨_,o.mi _ h,rfl⟩) h1
theorem Gp(nd:(T.map Th.n).Nodup)(ht:t∈T):zj [wO T M dk y mo,.str t.n]=some (thD t):=by refine sv (ρ:=[.im (wO T M dk y mo),.im (.str t.n)]) rfl (sH (se (x:=.dic (nK T) (T.map thD)) (y:=.str t.n) rfl rfl ?_));show some ((uG (nK T) (T.map thD) (kS t.n)).getD .non)=_;rw[AA (MJ nd) (d:=thD t) (by unfold nK;rw[jf];exact aK.mpr ⟨t,ht,rfl⟩)];rfl
def shB(T:List Th)(V:List (Str×Int))(x:Str):Bool:=decide (x∈nmK T λk=>decide (k=.box))&&decide ((x,0)∈V)
theorem MU(nd:(T.map Th.n).Nodup)(ht:t∈T):t.n∈(nmK T λk=>decide (k=.box)) ↔ t.k=.box:=by
 constructor
 ·intro h;obtain⟨u,h1,h2,h3⟩:=yJ h;have:=LK nd h1 ht h2;subst this;exact bu h3
 ·intro h;exact aK.mpr ⟨t,bO.mpr ⟨ht,ba h⟩,rfl⟩
theorem QY(t:Th):dEq false (.str t.k.s) (.str "box")=some (.bl (decide (t.k=.box))):=by cases t.k<;>kernel_rfl
theorem aaF(nv:(V.map aG).Nodup)(h:(x,z)∈V):decide ((x,0)∈V)=decide (z=0):=by
 rw[cK,bG,bG];constructor
 ·intro h';exact Jf nv h h'
 ·intro e;rw[<-e];exact h
theorem wW(h1:e ρ=some (.bl false,ρ1)):uf e e' ρ=some (.bl false,ρ1):=by unfold uf;rw[h1]
abbrev iy:=(rV ar sI)
theorem Uh(nd:(T.map Th.n).Nodup)(nv:(V.map aG).Nodup)(hv:∀x∈(nmK T λk=>decide (k=.box)),∃z,(x,z)∈V)(o:DG A V S)(ht:t∈T):wm [wO T M dk y mo,sD S,.str t.n]=some (.bl (shB T V t.n)):=by
 let ρ:bg:=[.im (wO T M dk y mo),.im (sD S),.im (.str t.n)];have e1:c2 (dEq false) (c1 (sU tT "kind") (tS ur "thing_of" aa iy)) eP ρ=some (.bl (decide (t.k=.box)),ρ):=
  se (tQ (uh (m:="thing_of") (ns:=wNs) (xs:=wDs T M dk y mo) (ys:=[.str t.n]) rfl rfl rfl rfl (Gp nd ht)) (BY t)) rfl (QY t)
 refine sv (ρ:=ρ) rfl (sH ?_);unfold shB;by_cases h:t.k=.box
 ·have hb:=(MU nd ht).mpr h;obtain⟨z,hz⟩:=hv _ hb;rw[ba h]at e1;rw[ba hb,aaF nv hz];refine(tM e1).trans (se (rZ (rW rfl (rW rfl rfl)) (Jg nv o hz)) rfl ?_);rw[vQ];rfl
 ·rw[aO h]at e1;rw[aO λz=>h ((MU nd ht).mp z)];exact wW e1
def opn(sh:Str->Bool)(h:Str):aF->Bool
 |[]=>false
 |a::l=>if a=h then true else if sh a then false else opn sh h l
theorem A4:opn sh h (a::l)=if a=h then true else if sh a then false else opn sh h l:=rfl
theorem YK:∀{p:aF},h∉p->opn sh h (p++h::r)=p.all λa=>!sh a
 |[],_=>by rw[bP,A4,aj rfl];rfl
 |a::p,hh=>by rw[List.cons_append,A4,ao (show ¬a=h from λe=>hh (e▸aY)),YK λz=>hh (bo _ z),dJ];cases sh a<;>rfl
theorem QZ:∀{p:aF},h∉p->opn sh h p=false
 |[],_=>rfl
 |a::p,hh=>by rw[A4,ao (show ¬a=h from λe=>hh (e▸aY)),QZ λz=>hh (bo _ z)];cases sh a<;>rfl
abbrev l3:=(rV aa lD)
theorem HQ{st:L4.D}(h:Str):∀(l:aF) (s:Sl),(∀a∈l,wm [w,st,.str a]=some (.bl (sh a)))->∃s',forL (gN 4) (r6 (sIf (cT (c2 (dEq false) aw av)) (sy cF) sF)
 (sIf (cT (r9 wm l3)) (sy cv) sF)) (l.map D.str) [.im w,.im st,.im x,.im (.str h),s]=some (.rt (.bl (opn sh h l)) [.im w,.im st,.im x,.im (.str h),s'])\/(opn sh h l=false/\forL (gN 4) (r6 (sIf (cT (c2 (dEq false) aw av)) (sy cF) sF)
 (sIf (cT (r9 wm l3)) (sy cv) sF)) (l.map D.str) [.im w,.im st,.im x,.im (.str h),s]=some (.nx [.im w,.im st,.im x,.im (.str h),s']))
 |[],s,_=>⟨s,.inr ⟨rfl,rfl⟩⟩
 |a::l,s,hh=>by
  let ρ:bg:=[.im w,.im st,.im x,.im (.str h),.im (.str a)];have e1:cT (c2 (dEq false) aw av) ρ=some (decide (a=h),ρ):=tN (se (x:=.str a) (y:=.str h) rfl rfl (vP false a h));have e2:cT (r9 wm l3) ρ=some (sh a,ρ):=tN (rZ (rW rfl (rW rfl (rW rfl rfl))) (hh a aY));rw[az];unfold forL;rw[show gN 4 (.str a) [.im w,.im st,.im x,.im (.str h),s]=some ρ from rfl];rw[A4];by_cases h1:a=h
  ·rw[ba h1]at e1;rw[aj h1];refine⟨.im (.str a),.inl ?_⟩;have e3:∀f:FS,r6 (sIf (cT (c2 (dEq false) aw av)) (sy cF) sF) f ρ=some (.rt (.bl true) ρ):=λf=>sJ ((sP e1).trans rfl);simp only[e3];rfl
  ·rw[aO h1]at e1;rw[ao h1];have e3:∀f:FS,r6 (sIf (cT (c2 (dEq false) aw av)) (sy cF) sF) f ρ=f ρ:=λf=>rX ((sf e1).trans rfl);simp only[e3];cases q:sh a with
   |true=>rw[q]at e2;refine⟨.im (.str a),.inl ?_⟩;simp only[(sP e2).trans (rfl:sy cv ρ=some (.rt (.bl false) ρ)),if_true];rfl
   |false=>rw[q]at e2;obtain⟨s',g⟩:=HQ (w:=w) (st:=st) (x:=x) (sh:=sh) h l (.im (.str a)) λb hb=>hh b (bo _ hb);refine⟨s',?_⟩;simp only[(sf e2).trans (rfl:sF ρ=some (.nx ρ)),eY,if_false];exact g
theorem Ui(a:yY A y)(o:DG A V S)(c:Ch A x l)(hl:l.length<=40)(hh:∀a∈l,wm [w,sD S,.str a]=some (.bl (sh a))):wo [w,sD S,.str x,.str h]=some (.bl (opn sh h l)):=by
 obtain⟨s',g⟩:=HQ (w:=w) (st:=sD S) (x:=.str x) (sh:=sh) h l .un hh;have e0:=tJ (rZ (a:=rV aa (rV af iy)) (ρ:=[.im w,.im (sD S),.im (.str x),.im (.str h),.un]) (rW rfl (rW rfl (rW rfl rfl))) (MR a o w c hl));rcases g with g|⟨g0,g⟩
 ·exact sv rfl (sJ ((ug (A0 e0)).trans g))
 ·rw[g0];exact sv rfl ((rX ((ug (A0 e0)).trans g)).trans rfl)
end
theorem eq_nil(neg:Bool)(l:aF):dEq neg (.lst (l.map D.str)) (.lst [])=some (.bl (if neg then !l.isEmpty else l.isEmpty)):=by
 cases l with
 |nil=>cases neg<;>kernel_rfl
 |cons x xs=>
  have e0:Dl neg (.lst ((x::xs).map D.str)) (.lst [])=none:=rfl;have e1:toD (.lst ((x::xs).map D.str))=some (.lst ((x::xs).map L3.Dq.str)):=by unfold toD;rw[Bf]
  have e3:dpt (.lst ((x::xs).map L3.Dq.str))=1:=by rw[dpt,y4]
  unfold dEq;rw[e0];show Dm neg _ _=_;unfold Dm;rw[e1,show toD (.lst [])=some (.lst []) from rfl];show (if GZ (.lst ((x::xs).map L3.Dq.str)) (.lst [])&&decide (dpt (.lst ((x::xs).map L3.Dq.str))<=20)&&decide (dpt (.lst [])<=20)then some (D.bl (if neg then !(eqD (.lst ((x::xs).map L3.Dq.str)) (.lst []))else eqD (.lst ((x::xs).map L3.Dq.str)) (.lst [])))else none)=_;rw[e3];cases neg<;>rfl
theorem DH:∀l:aF,Ax (l.map D.str)=some l
 |[]=>rfl
 |x::l=>by rw[az];unfold Ax;rw[DH l]
theorem KB:∀{l:aF},h∈l->opn sh h l=(l.take (l.idxOf h)).all λa=>!sh a
 |[],hh=>(bU hh).elim
 |a::l,hh=>by
  rw[A4];by_cases e:a=h
  ·subst e;rw[aj rfl,List.idxOf_cons_self];rfl
  ·have hl:h∈l:=by
    rcases aN.mp hh with z|z
    ·exact au z.symm e
    ·exact z
   have hb:(a==h)=false:=by simpa using e
   rw[ao e,oe,hb,cond_false,List.take_succ_cons,dJ,KB hl];cases sh a<;>rfl
section
variable{A:List (Str×Str)}{V:List (Str×Int)}{S:List (Ky×L4.D)}{y:Str}{T:List Th}{M:List Mk}{dk:aF}{mo:L4.D}
abbrev bxs(T:List Th):aF:=nmK T λk=>decide (k=.box)
abbrev lms(T:List Th):aF:=nmK T λk=>decide (k=.lamp)
theorem Uj(k:Kd):dIn false (.str k.s) (.lst [.str "lamp"])=some (.bl (decide (k=.lamp))):=by cases k<;>kernel_rfl
theorem Q0(nv:(V.map aG).Nodup)(k:Int)(h:(x,z)∈V):decide ((x,k)∈V)=decide (z=k):=by
 rw[cK,bG,bG];constructor
 ·intro h';exact Jf nv h h'
 ·intro e;rw[<-e];exact h
theorem KC(nv:(V.map aG).Nodup)(hT:T.length<=200)(p:Kd->Bool){K:L4.D}(hp:∀k:Kd,dIn false (.str k.s) K=some (.bl (p k)))(hk:fk ρ=some (K,ρ))(h0:ρ[0]?=some (.im (sS T M dk y)))(h2:ρ[2]?=some (.im (dcI V)))(hv:∀x∈nmK T p,∃z,(x,z)∈V)(k:Int)
  (hc:Bk 1 [2] ρ=[.un,.im (dcI V)]) (hu:vW [2] [.im (dcI V)] ρ=some ρ) (hq:cV 0 ρ=some (sS T M dk y,ρ)):
  sR 1 [2] (iL (cL (tp tR (rV aa (rV fk sI))))) (gN 0) (cT (c2 (dEq false) (c2 tq af aa) (cC (.int k)))) aa ρ=some (((nmK T p).filter λb=>decide ((b,k)∈V)).map D.str,ρ):=by
 have hl:(nmK T p).length<=1000:=by have:=(ue T p).length_le;rw[ah]at this;omega
 refine wV D.str D.str (λb=>decide ((b,k)∈V)) (nmK T p) (ρ1:=ρ) (A0 (tJ (rZ (rW hq (rW hk rfl)) (of_ok (by omega) p hp)))) hl λb hb=>?_;obtain⟨z,hz⟩:=hv b hb;refine⟨[.im (.str b),.im (dcI V)],[.im (.str b),.im (dcI V)],by rw[hc];rfl,tN (se (x:=.int z) (se (x:=dcI V) (y:=.str b) rfl rfl (LO nv hz)) rfl ?_),λ_=>⟨_,rfl,hu⟩,λ_=>hu⟩;rw[vQ,Q0 nv k hz];rfl
theorem YL(b:Str):decide (b∈(bxs T).filter λb=>decide ((b,0)∈V))=shB T V b:=by unfold shB;rw[cK,bG,bO,bq,bG,bG]
theorem Q1(hT:T.length<=200)(a:yY A y)(nv:(V.map aG).Nodup)(hv:∀x∈bxs T,∃z,(x,z)∈V)(c:Ch A x l)(hl:l.length<=40):tE [sS T M dk y,atD A,dcI V,.str x,.str h]=some (.bl (opn (shB T V) h l)):=by
 let sp:=sS T M dk y;let ρ:Sl->Sl->bg:=λp q=>[.im sp,.im (atD A),.im (dcI V),.im (.str x),.im (.str h),p,q];let al:Sl:=.im (.lst (l.map D.str));have e1:sO 5 (cL (tp vG (rV af lU))) (ρ .un .un)=some (.nx (ρ al .un)):=(sE (tJ (rZ (rW rfl (rW rfl rfl)) (KA a c hl)))).trans rfl;have e2:cT (c2 (dIn true) aw aE) (ρ al .un)=some (!decide (h∈l),ρ al .un):=tN (se (x:=.str h) (y:=.lst (l.map D.str)) rfl rfl (uK true h l));by_cases hh:h∈l
 ·rw[ba hh]at e2;let sl:Sl:=.im (.lst (((bxs T).filter λb=>decide ((b,0)∈V)).map D.str));have e3:=KC (T:=T) (M:=M) (dk:=dk) (y:=y) (V:=V) nv hT (λk=>decide (k=.box)) QT (fk:=cL (sN (rV eP sI))) (ρ:=ρ al .un) rfl rfl rfl hv 0 rfl rfl rfl;have e4:xK aE oNo (oAt (c2 xh aE aw)) (ρ al sl)=some ((l.take (l.idxOf h)).map D.str,ρ al sl):=by
   have i1:c2 xh aE aw (ρ al sl)=some (.int (l.idxOf h:Nat),ρ al sl):=se (x:=.lst (l.map D.str)) (y:=.str h) rfl rfl (by
    unfold xh;simp only[DH];rw[aj ⟨hh,by omega⟩])
   have i2:oAt (c2 xh aE aw) (ρ al sl)=some (some ((l.idxOf h:Nat):Int),ρ al sl):=by unfold oAt;rw[i1]
   have i3:cutD (l.map D.str) none (some ((l.idxOf h:Nat):Int))=(l.take (l.idxOf h)).map D.str:=by unfold cutD;rw[HT.EW,HT.B4,oJ,o7,ah,eD (fq (mr.mpr hh)),fo]
   show (match oAt (c2 xh aE aw) (ρ al sl)with
    |some (h,ρ3)=>some (cutD (l.map D.str) none h,ρ3)
    |none=>none)=_
   rw[i2];show some (cutD (l.map D.str) none (some ((l.idxOf h:Nat):Int)),ρ al sl)=_;rw[i3]
  have e5:sR 1 [6] (iL (cL (xK aE oNo (oAt (c2 xh aE aw))))) (gN 0) (cT (c2 (dIn false) aa af)) aa (ρ al sl)=some (((l.take (l.idxOf h)).filter λb=>shB T V b).map D.str,ρ al sl):=by refine wV D.str D.str (λb=>shB T V b) (l.take (l.idxOf h)) (ρ1:=ρ al sl) (A0 (tJ e4)) (by rw[bw];omega) λb _=>⟨[.im (.str b),sl],[.im (.str b),sl],rfl,tN (se (x:=.str b) (y:=.lst (((bxs T).filter λb=>decide ((b,0)∈V)).map D.str)) rfl rfl ?_),λ_=>⟨_,rfl,rfl⟩,λ_=>rfl⟩;rw[uK,<- YL];rfl
  refine sv (ρ:=ρ al sl) rfl ((rX e1).trans ((rX ((sf e2).trans rfl)).trans ((rX (ρ':=ρ al sl) ((sE (tJ e3)).trans rfl)).trans (sH (se (tJ e5) (y:=.lst []) rfl ?_)))));rw[eq_nil,KB hh];congr 2
  induction l.take (l.idxOf h)with
  |nil=>rfl
  |cons b r ih=>
   rw[dD,dJ];cases shB T V b
   ·exact ih
   ·rfl
 ·rw[aO hh]at e2;rw[QZ hh];exact sv rfl ((rX e1).trans (sJ ((sP e2).trans rfl)))
end
structure Sit(T:List Th)(A:List (Str×Str))(V:List (Str×Int))(S:List (Ky×L4.D))(y r:Str):Prop where
 nd:(T.map Th.n).Nodup
 hT:T.length<=200
 p7:(T.filter λt=>t.k.pl).length<=7
 a:yY A y
 pn:∀q∈A,q.2∈T.map Th.n
 nv:(V.map aG).Nodup
 hv:∀x∈nmK T Kd.mk,∃z,(x,z)∈V
 o:DG A V S
 hr:(y,r)∈A
section
variable{A:List (Str×Str)}{V:List (Str×Int)}{S:List (Ky×L4.D)}{y r:Str}{T:List Th}{M:List Mk}{dk:aF}{mo:L4.D}
def lf(a:yY A y)(x:Str):aF:=Classical.choose (Gm a x)
theorem Q2(a:yY A y)(x:Str):Ch A x (lf a x):=(mJ (Gm a x)).1
theorem Uk(a:yY A y)(x:Str):(lf a x).length<=40:=(mJ (Gm a x)).2
theorem Q3(h:∀k,p k=true->q k=true)(hx:x∈nmK T p):x∈nmK T q:=by obtain⟨t,h1,h2,h3⟩:=yJ hx;exact aK.mpr ⟨t,bO.mpr ⟨h1,h _ h3⟩,h2⟩
theorem Sit.vb(s:Sit T A V S y r):∀x∈bxs T,∃z,(x,z)∈V:=λx hx=>s.hv x (Q3 (λk h=>by rw[bu h];rfl) hx)
theorem Sit.vl(s:Sit T A V S y r):∀x∈lms T,∃z,(x,z)∈V:=λx hx=>s.hv x (Q3 (λk h=>by rw[bu h];rfl) hx)
theorem Sit.op(s:Sit T A V S y r)(x h:Str):wo [wO T M dk y mo,sD S,.str x,.str h]=some (.bl (opn (shB T V) h (lf s.a x))):=
 Ui s.a s.o (Q2 s.a x) (Uk s.a x) λb hb=>by obtain⟨q,hq,rfl⟩:=YJ (Q2 s.a x) b hb;obtain⟨t,ht,e⟩:=aK.mp (s.pn q hq);rw[<-e];exact Uh s.nd s.nv s.vb s.o ht
theorem Sit.lop(s:Sit T A V S y r)(x h:Str):tE [sS T M dk y,atD A,dcI V,.str x,.str h]=some (.bl (opn (shB T V) h (lf s.a x))):=Q1 s.hT s.a s.nv s.vb (Q2 s.a x) (Uk s.a x)
theorem Q4:Eg [wO T M dk y mo]=some (.str y):=rfl
theorem KD(s:Sit T A V S y r):wj [wO T M dk y mo,sD S]=some (.str r):=
 sv (ρ:=[.im (wO T M dk y mo),.im (sD S)]) rfl (sH (rZ (rW rfl (rW (uh (m:="you") (ns:=wNs) (xs:=wDs T M dk y mo) (ys:=[]) rfl rfl rfl rfl Q4) rfl)) (Bh s.a s.o s.hr)))
def BZ(dk:aF)(s:Sit T A V S y r):Bool:=!decide (r∈dk)||(lms T).any λb=>decide ((b,1)∈V)&&opn (shB T V) r (lf s.a b)
theorem Ul:Ae [wO T M dk y mo,.str r]=some (.bl (decide (r∈dk))):=
 sv (ρ:=[.im (wO T M dk y mo),.im (.str r)]) rfl (sH (se (x:=.str r) (y:=.lst (dk.map D.str)) rfl rfl (uK false r dk)))
theorem Q5(s:Sit T A V S y r)(hb:b∈lms T):zO [wO T M dk y mo,sD S,.str b,.str r]=some (.bl (decide ((b,1)∈V)&&opn (shB T V) r (lf s.a b))):=by
 let ρ:bg:=[.im (wO T M dk y mo),.im (sD S),.im (.str b),.im (.str r)];obtain⟨z,hz⟩:=s.vl b hb;have e1:c2 (dEq false) (r9 wg (rV af iy)) aD ρ=some (.bl (decide ((b,1)∈V)),ρ):=se (rZ (rW rfl (rW rfl rfl)) (Jg s.nv s.o hz)) rfl (by rw[vQ,Q0 s.nv 1 hz];rfl);refine sv (ρ:=ρ) rfl (sH ?_);cases q:decide ((b,1)∈V)with
 |true=>rw[q]at e1;exact(tM e1).trans (rZ (rW rfl (rW rfl (rW rfl (rW rfl rfl)))) (s.op b r))
 |false=>rw[q]at e1;exact wW e1
abbrev jz:=(rV lW sI)
theorem Q6(s:Sit T A V S y r):CH [wO T M dk y mo,sD S]=some (.bl (BZ dk s)):=by
 let W:=wO T M dk y mo;let ρ:bg:=[.im W,.im (sD S),.im (.str r)];have e1:sO 2 (r9 wj (rV aa lK)) [.im W,.im (sD S),.un]=some (.nx ρ):=(sE (rZ (rW rfl (rW rfl rfl)) (KD s))).trans rfl;have e2:wc (cT (tS xj "is_dark" aa iy)) ρ=some (!decide (r∈dk),ρ):=Cf (tN (uh (m:="is_dark") (ns:=wNs) (xs:=wDs T M dk y mo) (ys:=[.str r]) rfl rfl rfl rfl Ul));unfold BZ;cases q:decide (r∈dk)with
 |false=>rw[q]at e2;exact sv rfl ((rX e1).trans (sJ ((sP e2).trans rfl)))
 |true=>
  rw[q]at e2;have hl:=s.hT;have e3:sR 1 [0,1,2] (iL (tS ve "of_kind" aa jz)) (gN 0) ua (r9 zO (rV af (rV ar (rV aa lU)))) ρ=some ((lms T).map λb=>D.bl (decide ((b,1)∈V)&&opn (shB T V) r (lf s.a b)),ρ):=by
   have hlen:(lms T).length<=1000:=by have:=(ue T λk=>decide (k=.lamp)).length_le;rw[ah]at this;exact bQ this (by omega)
   refine Ah D.str (λb=>D.bl (decide ((b,1)∈V)&&opn (shB T V) r (lf s.a b))) (lms T) (ρ1:=ρ) ((A0 (uh (m:="of_kind") (ns:=wNs) (xs:=wDs T M dk y mo) (ys:=[.str Kd.lamp.s]) rfl rfl rfl rfl (Ge T (by omega) _ _ .lamp))).trans (by unfold lms nmK;rw[aZ];rfl)) hlen λb hb=>⟨[.im (.str b),.im W,.im (sD S),.im (.str r)],[.im (.str b),.im W,.im (sD S),.im (.str r)],rfl,rZ (rW rfl (rW rfl (rW rfl (rW rfl rfl)))) (Q5 s hb),rfl⟩
  exact sv rfl ((rX e1).trans ((rX ((sf e2).trans rfl)).trans (sH (tQ (tJ e3) (MC _ _)))))
theorem MV(s:Sit T A V S y r):zX [sS T M dk y,atD A,dcI V]=some (.bl (BZ dk s)):=by
 let sp:=sS T M dk y;let ρ:Sl->Sl->bg:=λp q=>[.im sp,.im (atD A),.im (dcI V),p,q];let rr:Sl:=.im (.str r);let ll:aF:=(lms T).filter λb=>decide ((b,1)∈V);let q4:Sl:=.im (.lst (ll.map D.str));have hl:=s.hT;have e1:sO 3 (c2 tq af (c2 tq aa eM)) (ρ .un .un)=some (.nx (ρ rr .un)):=(sE (se (x:=atD A) (y:=.str y) rfl (se rfl rfl rfl) (Bi s.a s.hr))).trans rfl;have e2:=KC (T:=T) (M:=M) (dk:=dk) (y:=y) (V:=V) s.nv s.hT (λk=>decide (k=.lamp)) Uj (fk:=cL (sN jz)) (ρ:=ρ rr .un) rfl rfl rfl s.vl 1 rfl rfl rfl;have e3:cT (c2 (dIn true) av (c2 tq aa (cC (.str "dark")))) (ρ rr q4)=some (!decide (r∈dk),ρ rr q4):=tN (se (x:=.str r) (y:=.lst (dk.map D.str)) rfl (se rfl rfl rfl) (uK true r dk));have head:∀f:FS,r6 (sO 3 (c2 tq af (c2 tq aa eM))) (r6 (sO 4 (cL (sR 1 [2] (iL (cL (tp tR (rV aa (rV (cL (sN jz)) sI))))) (gN 0) (cT (c2 (dEq false) (c2 tq af aa) aD)) aa))) f) (ρ .un .un)=f (ρ rr q4):=λf=>(rX e1).trans (rX ((sE (tJ e2)).trans rfl));unfold BZ;cases q:decide (r∈dk)with
 |false=>rw[q]at e3;exact sv rfl ((head _).trans (sJ ((sP e3).trans rfl)))
 |true=>
  rw[q]at e3;have hlen:ll.length<=1000:=by have:=(ue T λk=>decide (k=.lamp)).length_le;rw[ah]at this;exact bQ (eV _ _) (bQ this (by omega))
  have e4:sR 1 [0,1,2,3] (iL aw) (gN 0) (cT (r9 tE (rV af (rV ar (rV av (rV aa l4)))))) aa (ρ rr q4)=some ((ll.filter λb=>opn (shB T V) r (lf s.a b)).map D.str,ρ rr q4):=
   wV D.str D.str (λb=>opn (shB T V) r (lf s.a b)) ll (ρ1:=ρ rr q4) rfl hlen λb _=>⟨[.im (.str b),.im sp,.im (atD A),.im (dcI V),rr],[.im (.str b),.im sp,.im (atD A),.im (dcI V),rr],rfl,tN (rZ (rW rfl (rW rfl (rW rfl (rW rfl (rW rfl rfl))))) (s.lop b r)),λ_=>⟨_,rfl,rfl⟩,λ_=>rfl⟩
  refine sv rfl ((head _).trans ((rX ((sf e3).trans rfl)).trans (sH (se (tJ e4) (y:=.lst []) rfl ?_))));rw[eq_nil,ng];congr 2;show (!((lms T).filter _).isEmpty)=(false||(lms T).any _);rw[oR]
  induction lms T with
  |nil=>rfl
  |cons b l ih=>
   rw[dD,eF,kC (opn _ _ _)];cases decide ((b,1)∈V)&&opn (shB T V) r (lf s.a b)
   ·exact ih
   ·rfl
def zm(dk:aF)(s:Sit T A V S y r)(x:Str):Bool:=(BZ dk s&&opn (shB T V) r (lf s.a x))||opn (shB T V) y (lf s.a x)
theorem Q7(s:Sit T A V S y r)(ht:t∈T):DC [wO T M dk y mo,sD S,.str t.n]=some (.bl (t.k.pl&&zm dk s t.n)):=by
 let W:=wO T M dk y mo;let ρ:bg:=[.im W,.im (sD S),.im (.str t.n),.im (thD t)];have e1:sO 3 (tS ur "thing_of" aa iy) [.im W,.im (sD S),.im (.str t.n),.un]=some (.nx ρ):=(sE (uh (m:="thing_of") (ns:=wNs) (xs:=wDs T M dk y mo) (ys:=[.str t.n]) rfl rfl rfl rfl (Gp s.nd ht))).trans rfl;have e2:xn (cT (c2 BJ av bt)) (wc (cT (tS uN "is_plainly" av sI))) ρ=some (!t.k.pl,ρ):=zA rfl (Cf (tN (uh (m:="is_plainly") (ns:=["name", "words", "kind", "start"]) (xs:=[.str t.n,.tup (t.w.map D.str),.str t.k.s,oS t.s]) (ys:=[]) rfl rfl rfl rfl (Kj t))));have e3:cT (r9 wo (rV aa (rV af (rV ar (rV (tS zh "you" aa sI) sI))))) ρ=some (opn (shB T V) y (lf s.a t.n),ρ):=tN (rZ (rW rfl (rW rfl (rW rfl (rW (uh (m:="you") (ns:=wNs) (xs:=wDs T M dk y mo) (ys:=[]) rfl rfl rfl rfl Q4) rfl)))) (s.op t.n y));have e4:r9 wo (rV aa (rV af (rV ar (rV (r9 wj (rV aa lK)) sI)))) ρ=some (.bl (opn (shB T V) r (lf s.a t.n)),ρ):=rZ (rW rfl (rW rfl (rW rfl (rW (rZ (rW rfl (rW rfl rfl)) (KD s)) rfl)))) (s.op t.n r);unfold zm;cases q1:t.k.pl with
 |false=>rw[q1]at e2;exact sv rfl ((rX e1).trans (sJ ((sP e2).trans rfl)))
 |true=>
  rw[q1]at e2;cases q2:opn (shB T V) y (lf s.a t.n)with
  |true=>rw[q2]at e3;rw[Bool.or_true];exact sv rfl ((rX e1).trans ((rX ((sf e2).trans rfl)).trans (sJ ((sP e3).trans rfl))))
  |false=>
   rw[q2]at e3;rw[oP,Bool.true_and,kC];refine sv (ρ:=ρ) rfl ((rX e1).trans ((rX ((sf e2).trans rfl)).trans ((rX ((sf e3).trans rfl)).trans (sH ?_))));cases q3:opn (shB T V) r (lf s.a t.n)with
   |true=>rw[q3]at e4;exact(tM e4).trans (rZ (rW rfl (rW rfl rfl)) (Q6 s))
   |false=>rw[q3]at e4;exact wW e4
end
section
variable{A:List (Str×Str)}{V:List (Str×Int)}{S:List (Ky×L4.D)}{y r:Str}{T:List Th}{M:List Mk}{dk:aF}{mo:L4.D}
def BD(dk:aF)(s:Sit T A V S y r):aF:=(T.filter λt=>t.k.pl&&zm dk s t.n).map Th.n
theorem Oo(s:Sit T A V S y r):(BD dk s).length<64:=by
 unfold BD;rw[ah,<- iC];have h1:T.countP (λt=>t.k.pl&&zm dk s t.n)<=T.countP λt=>t.k.pl:=mI λt _ h=>by rw[bq]at h;exact h.1
 rw[iC (p:=λt:Th=>t.k.pl)]at h1;have:=s.p7;omega
theorem Q8{l:aF}(h:e ρ=some (.lst (l.map D.str),ρ1))(hl:l.length<64):Du e ρ=some ((xI l).map D.str,ρ1):=by unfold Du;rw[h];simp only[DH];rw[aj hl]
theorem US(k:Kd):dIn false (.str k.s) (.lst [.str "plain", .str "fixed", .str "box", .str "lamp"])=some (.bl k.pl):=by cases k<;>kernel_rfl
abbrev lA:=(rV aa (rV af (rV ar (rV aE (rV (c2 tq af (c2 tq aa eM)) sI)))))
abbrev lC:=(rV aa (rV af (rV ar (rV aE (rV (c2 tq aa eM) sI)))))
def Q9:FS:=(r6 (sO 6 (uf aw (r9 tE lA)))
 (sIf (xn (cT bf) (cT (r9 tE lC))) (sY (vX 3 aE)) sF))
theorem A5(h:c ρ=some (true,ρ1)):xn c c' ρ=some (true,ρ1):=by unfold xn;rw[h]
theorem HR(s:Sit T A V S y r):∀(l:aF) (fd:aF) (p q:Sl),fd.length+l.length<=900->∃p' q',forL (gN 5) Q9 (l.map D.str) [.im (sS T M dk y),.im (atD A),.im (dcI V),.ls (fd.map D.str),.im (.bl (BZ dk s)),p,q]=some (.nx [.im (sS T M dk y),.im (atD A),.im (dcI V),.ls ((fd++l.filter (zm dk s)).map D.str),.im (.bl (BZ dk s)),p',q'])
 |[],fd,p,q,_=>⟨p,q,by rw[jb,bz];rfl⟩
 |x::l,fd,p,q,hl=>by
  rw[aH]at hl;let sp:=sS T M dk y;let nr:Bool:=BZ dk s&&opn (shB T V) r (lf s.a x);let ρ:Sl->Sl->bg:=λf q=>[.im sp,.im (atD A),.im (dcI V),f,.im (.bl (BZ dk s)),.im (.str x),q];let F:aF->Sl:=λfd=>.ls (fd.map D.str);have e1:uf aw (r9 tE lA) (ρ (F fd) q)=some (.bl nr,ρ (F fd) q):=by
   have e0:r9 tE lA (ρ (F fd) q)=some (.bl (opn (shB T V) r (lf s.a x)),ρ (F fd) q):=rZ (rW rfl (rW rfl (rW rfl (rW rfl (rW (se (x:=atD A) (y:=.str y) rfl (se rfl rfl rfl) (Bi s.a s.hr)) rfl))))) (s.lop x r);show _=some (D.bl (BZ dk s&&opn (shB T V) r (lf s.a x)),_);cases w:BZ dk s with
   |true=>exact(tM (show cV 4 (ρ (F fd) q)=some (.bl true,ρ (F fd) q) by rw[<-w];rfl)).trans e0
   |false=>exact wW (show cV 4 (ρ (F fd) q)=some (.bl false,ρ (F fd) q) by rw[<-w];rfl)
  have e2:cT (r9 tE lC) (ρ (F fd) (.im (.bl nr)))=some (opn (shB T V) y (lf s.a x),ρ (F fd) (.im (.bl nr))):=tN (rZ (rW rfl (rW rfl (rW rfl (rW rfl (rW (se rfl rfl rfl) rfl))))) (s.lop x y));have e3:xn (cT bf) (cT (r9 tE lC)) (ρ (F fd) (.im (.bl nr)))=some (zm dk s x,ρ (F fd) (.im (.bl nr))):=by
   show _=some (nr||_,_);cases w:nr with
   |true=>exact A5 (show cT bf (ρ (F fd) (.im (.bl true)))=some (true,ρ (F fd) (.im (.bl true))) from rfl)
   |false=>rw[w]at e2;exact zA (show cT bf (ρ (F fd) (.im (.bl false)))=some (false,ρ (F fd) (.im (.bl false))) from rfl) e2
  have ev:Q9 (ρ (F fd) q)=some (.nx (ρ (F (fd++[x].filter (zm dk s))) (.im (.bl nr)))):=by
   unfold Q9;refine(rX (ρ':=ρ (F fd) (.im (.bl nr))) ((sE e1).trans rfl)).trans ?_;cases w:zm dk s x with
   |true=>rw[w]at e3;rw[dD,w,aj rfl,jb];refine(sP e3).trans (tV (d:=.non) ((ye (es:=fd.map D.str) rfl rfl rfl (by rw[ah];omega)).trans ?_));show some (D.non,ρ (.ls (fd.map D.str++[.str x])) (.im (.bl nr)))=some (_,ρ (.ls ((fd++[x]).map D.str)) (.im (.bl nr)));rw[bj];rfl
   |false=>rw[w]at e3;rw[dD,w,ao (by decide),jb,bz];exact(sf e3).trans rfl
  obtain⟨p',q',g⟩:=HR s l (fd++[x].filter (zm dk s)) (.im (.str x)) (.im (.bl nr)) (by
   have:=eV (zm dk s) [x];rw[aC];rw[bh]at this;omega)
  refine⟨p',q',?_⟩;rw[az];unfold forL;rw[show gN 5 (.str x) [.im sp,.im (atD A),.im (dcI V),.ls (fd.map D.str),.im (.bl (BZ dk s)),p,q]=some (ρ (F fd) q) from rfl];simp only[ev];refine g.trans ?_;rw[bE,<- m9];rfl
theorem Rb(s:Sit T A V S y r):AX [sS T M dk y,atD A,dcI V]=some ((xI (BD dk s)).map D.str):=by
 let sp:=sS T M dk y;have hl:=s.hT;have h7:(nmK T Kd.pl).length<=7:=by unfold nmK;rw[ah];exact s.p7
 obtain⟨p',q',g⟩:=HR (M:=M) (dk:=dk) s (nmK T Kd.pl) [] .un .un (by simp;omega);have ef:(nmK T Kd.pl).filter (zm dk s)=BD dk s:=by unfold nmK BD;rw[oj,ng];congr 1;exact List.filter_congr λt _=>kC _ _
 rw[bP,ef]at g;refine zC (ρ:=[.im sp,.im (atD A),.im (dcI V),.im (.lst ((BD dk s).map D.str)),.im (.bl (BZ dk s)),p',q']) rfl ?_;refine(rX (ρ':=[.im sp,.im (atD A),.im (dcI V),.ls [],.un,.un,.un]) rfl).trans ?_;refine(rX (ρ':=[.im sp,.im (atD A),.im (dcI V),.ls [],.im (.bl (BZ dk s)),.un,.un]) ((sE (rZ (rW rfl (rW rfl (rW rfl rfl))) (MV s))).trans rfl)).trans ?_;refine(rX ((ug (A0 (tJ (rZ (rW rfl (rW rfl rfl)) (of_ok (by omega) Kd.pl US))))).trans g)).trans ?_;exact zz (Q8 rfl (Oo s))
end
section
variable{A:List (Str×Str)}{V:List (Str×Int)}{S:List (Ky×L4.D)}{y:Str}{T:List Th}{M:List Mk}{dk:aF}{mo:L4.D}
theorem Um(a b:L4.D):vF [wO T M dk y mo,.tup [.str "take", a,b]]=some (.tup [a,b]):=by kernel_rfl
theorem Re(a b:L4.D):vF [wO T M dk y mo,.tup [.str "put", a,b]]=some (.tup [a,b]):=by kernel_rfl
def noT(x:Str):Bool:=decide (x∉(["here", "it", "other"]:aF))
theorem LP(h:Nm x):x∉(["here", "it", "other"]:aF):=bu (IZ (p:=noT) (by kernel_rfl) h)
theorem MW{st:L4.D}(h:vF [w,c]=some (.tup [a,b])):wI [w,st,c,.str "it"]=some a:=by let ρ:bg:=[.im w,.im st,.im c,.im (.str "it")];refine sv (ρ:=ρ) rfl ?_;unfold Be;refine(rX (ρ':=ρ) ((sf (ρ':=ρ) (tN (se rfl rfl (by kernel_rfl)))).trans rfl)).trans ?_;exact sJ ((sP (ρ':=ρ) (tN (se rfl rfl (by kernel_rfl)))).trans (sH (se (rZ rfl h) rfl rfl)))
theorem LQ{st:L4.D}(h:vF [w,c]=some (.tup [a,b])):wI [w,st,c,.str "other"]=some b:=by let ρ:bg:=[.im w,.im st,.im c,.im (.str "other")];refine sv (ρ:=ρ) rfl ?_;unfold Be;refine(rX (ρ':=ρ) ((sf (ρ':=ρ) (tN (se rfl rfl (by kernel_rfl)))).trans rfl)).trans ?_;refine(rX (ρ':=ρ) ((sf (ρ':=ρ) (tN (se rfl rfl (by kernel_rfl)))).trans rfl)).trans ?_;exact sJ ((sP (ρ':=ρ) (tN (se rfl rfl (by kernel_rfl)))).trans (sH (se (rZ rfl h) rfl rfl)))
theorem Uo{st:L4.D}(hx:Nm x):wI [w,st,c,.str x]=some (.str x):=by
 have n:=LP hx;have n1:dEq false (.str x) (.str "here")=some (.bl false):=by rw[vP,aO λe=>n (by rw[e];simp)];rfl
 have n2:dEq false (.str x) (.str "it")=some (.bl false):=by rw[vP,aO λe=>n (by rw[e];simp)];rfl
 have n3:dEq false (.str x) (.str "other")=some (.bl false):=by rw[vP,aO λe=>n (by rw[e];simp)];rfl
 let ρ:bg:=[.im w,.im st,.im c,.im (.str x)];refine sv (ρ:=ρ) rfl ?_;unfold Be;refine(rX (ρ':=ρ) ((sf (ρ':=ρ) (tN (se rfl rfl n1))).trans rfl)).trans ?_;refine(rX (ρ':=ρ) ((sf (ρ':=ρ) (tN (se rfl rfl n2))).trans rfl)).trans ?_;refine(rX (ρ':=ρ) ((sf (ρ':=ρ) (tN (se rfl rfl n3))).trans rfl)).trans ?_;rfl
theorem Up(a:yY A y)(o:DG A V S)(h:(y,r)∈A):wj [wO T M dk y mo,sD S]=some (.str r):=
 sv (ρ:=[.im (wO T M dk y mo),.im (sD S)]) rfl (sH (rZ (ds:=[sD S,.str y]) rfl (Bh a o h)))
theorem Oq(a:yY A y)(o:DG A V S)(h:(y,r)∈A):wI [wO T M dk y mo,sD S,c,.str "here"]=some (.str r):=by let ρ:bg:=[.im (wO T M dk y mo),.im (sD S),.im c,.im (.str "here")];refine sv (ρ:=ρ) rfl ?_;unfold Be;exact sJ ((sP (ρ':=ρ) (tN (se rfl rfl (by kernel_rfl)))).trans (sH (rZ (ds:=[wO T M dk y mo,sD S]) rfl (Up a o h))))
end
section
variable{y:Str}{T:List Th}{M:List Mk}{dk:aF}
theorem tk(hn:0<n)(hi:IL es)(h0:uq ρ j=some es)(he:e ρ=some (.int n,ρ)):∃r es',IL es'/\0<=r/\r<n/\tu rY j (rV e sI) ρ=some (.int r,putAt ρ j es'):=by obtain⟨r,es',h1,h2,h3,h4⟩:=uv hi n hn;exact⟨r,es',h1,h2,h3,vo h0 (rW he rfl) h0 h4⟩
theorem pk(hl:l≠[])(hi:IL es)(h0:uq ρ j=some es)(hv:cV i ρ=some (.lst (l.map D.str),ρ)):∃x es',x∈l/\IL es'/\c2 dIx (cV i) (tu rY j (rV (c1 uw (cV i)) sI)) ρ=some (.str x,putAt ρ j es'):=by
 have hp:=mS.mpr hl;obtain⟨r,es',h1,h2,h3,h4⟩:=tk (n:=l.length) (e:=c1 uw (cV i)) (by omega) hi h0 (tQ hv (by show some (D.int _)=_;rw[ah]));obtain⟨r,rfl⟩:=cz h2;have hr:r<l.length:=by omega
 exact⟨l[r],es',dh hr,h1,se hv h4 (vc (aP hr))⟩
theorem Eu(x:Str)(xs:aF):dEq false (.lst ((x::xs).map D.str)) (.lst [])=some (.bl false):=by
 have e0:Dl false (.lst ((x::xs).map D.str)) (.lst [])=none:=rfl;have e1:toD (.lst ((x::xs).map D.str))=some (.lst ((x::xs).map L3.Dq.str)):=by unfold toD;rw[Bf]
 have e3:dpt (.lst ((x::xs).map L3.Dq.str))=1:=by rw[dpt,y4]
 unfold dEq;rw[e0];show Dm false _ _=_;unfold Dm;rw[e1,show toD (.lst [])=some (.lst []) from rfl];show (if GZ (.lst ((x::xs).map L3.Dq.str)) (.lst [])&&decide (dpt (.lst ((x::xs).map L3.Dq.str))<=20)&&decide (dpt (.lst [])<=20)then some (D.bl (eqD (.lst ((x::xs).map L3.Dq.str)) (.lst [])))else none)=_;rw[e3];rfl
inductive Cm(sm:aF):L4.D->Str->Prop
 |go (z:Str):Cm sm (.tup [.str "go", .str z,.non]) "way"
 |wait:Cm sm (.tup [.str "wait", .non,.non]) "alone"
 |take {a:Str}:a∈sm->Cm sm (.tup [.str "take", .str a,.non]) "one"
 |put {a b:Str}:a∈sm->b∈sm->Cm sm (.tup [.str "put", .str a,.str b]) "two"
theorem Uq(h:Cm sm c f):AY [c]=some (.str f):=by cases h<;>kernel_rfl
theorem LR(h0:0<=r)(h1:r<2):dIx (.lst [a,b]) (.int r)=some (if r=0 then a else b):=by
 have:r=0\/r=1:=by omega
 rcases this with rfl|rfl<;>rfl
abbrev pH:=(rV (cC (.str "north")) (rV (cC (.str "up")) sI))
abbrev pL:=(rV (tL (rV (cC (.str "go")) (rV (c2 dIx (cL (sN pH)) (tu rY 1 l5)) (rV bt sI)))) (rV (tL (rV (cC (.str "wait")) (rV bt (rV bt sI)))) sI))
theorem LS(g:Good T M dk)(hi:IL es):∃c f es',IL es'/\Cm (nmK T Kd.pl) c f/\vH es [sS T M dk y]=some (c,es'):=by
 let sp:=sS T M dk y;let sm:=nmK T Kd.pl;let L:L4.D:=.lst (sm.map D.str);have hl:=g.len;have run:∃c f es' x4,IL es'/\Cm sm c f/\∃x3,wQ (stL 5 es [sp])=some (.rt c [.im sp,.pm es',.im L,x3,x4]):=by
  unfold wQ;have e1:(sO 2 (cL (tp tR (rV aa (rV (cL (sN (rV lu (rV (cC (.str "fixed")) (rV eP jz))))) sI)))):FS) (stL 5 es [sp])=some (.nx [.im sp,.pm es,.im L,.un,.un]):=(sE (tJ (rZ (rW rfl (rW rfl rfl)) (of_ok (by omega) Kd.pl US)))).trans rfl;rw[rX e1];obtain⟨w,es1,i1,w0,w1,h1⟩:=tk (ρ:=[.im sp,.pm es,.im L,.un,.un]) (j:=1) (e:=cC (.int 8)) (n:=8) (by decide) hi rfl rfl;rw[rX ((sE h1).trans (show _=some (Out.nx [.im sp,.pm es1,.im L,.im (.int w),.un]) from rfl))];let ρ:bg:=[.im sp,.pm es1,.im L,.im (.int w),.un];have far:∃c f es',IL es'/\Cm sm c f/\(sy (c2 dIx (cL (sN pL)) (c2 vB av bM)):FS) ρ=some (.rt c [.im sp,.pm es',.im L,.im (.int w),.un]):=by
   obtain⟨r,es2,i2,r0,r1,h2⟩:=tk (ρ:=ρ) (j:=1) (e:=cC (.int 2)) (n:=2) (by decide) i1 rfl rfl;have m0:=kj w (by decide:(2:Int)≠0);have m1:=j6 w (by decide:(0:Int)<2);let z:Str:=if r=0 then "north" else "up"
   let ρ2:bg:=[.im sp,.pm es2,.im L,.im (.int w),.un];have ez:(if r=0 then D.str "north" else .str "up")=.str z:=by show _=D.str (if r=0 then "north" else "up");split<;>rfl
   have en:=se (g:=dIx) (e:=cL (sN pH)) (ρ:=ρ) (ρ1:=ρ) rfl h2 ((LR r0 r1).trans (aU some ez));have er:=sH (se (g:=dIx) (e:=cL (sN pL)) (e':=c2 vB av bM) (x:=.lst [.tup [.str "go", .str z,.non],.tup [.str "wait", .non,.non]]) (y:=.int (w % 2)) (ρ:=ρ) (ρ1:=ρ2) (ρ2:=ρ2) (tJ (As (rW (uX (rW rfl (rW en rfl)) (bT rfl)) rfl) (bT rfl))) (se rfl rfl (xJ (by decide))) (LR m0 m1));by_cases hw:w % 2=0
   ·rw[aj hw]at er;exact⟨_,_,es2,i2,.go z,er⟩
   ·rw[ao hw]at er;exact⟨_,_,es2,i2,.wait,er⟩
  obtain⟨c0,f0,es0,j0,k0,far⟩:=far;by_cases h0:sm=[]
  ·have et:xn (cT (c2 (dEq false) ar (cL (sN sI)))) (cT (c2 Fk av dR)) ρ=some (true,ρ):=A5 (tN (se (x:=L) (y:=.lst []) rfl rfl (by show dEq false (.lst (sm.map D.str)) _=_;rw[h0];rfl)));exact⟨c0,f0,es0,_,j0,k0,_,sJ ((sP et).trans far)⟩
  ·have ee:cT (c2 (dEq false) ar (cL (sN sI))) ρ=some (false,ρ):=tN (se (x:=L) (y:=.lst []) rfl rfl (by
    show dEq false (.lst (sm.map D.str)) _=_;obtain⟨a,r,e⟩:=gu h0;rw[e];exact Eu a r))
   have et:xn (cT (c2 (dEq false) ar (cL (sN sI)))) (cT (c2 Fk av dR)) ρ=some (decide (w > 5),ρ):=zA ee (tN (se rfl rfl rfl));by_cases hw:w > 5
   ·rw[ba hw]at et;exact⟨c0,f0,es0,_,j0,k0,_,sJ ((sP et).trans far)⟩
   ·rw[aO hw]at et;rw[rX ((sf et).trans (show _=some (Out.nx ρ) from rfl))];obtain⟨a,es2,ha,i2,h2⟩:=pk (ρ:=ρ) (i:=2) (j:=1) h0 i1 rfl rfl;rw[rX ((sE h2).trans (show _=some (Out.nx [.im sp,.pm es2,.im L,.im (.int w),.im (.str a)]) from rfl))];let ρ2:bg:=[.im sp,.pm es2,.im L,.im (.int w),.im (.str a)];have e2:cT (c2 Bl av bM) ρ2=some (decide (w<2),ρ2):=tN (se rfl rfl rfl);by_cases hw:w<2
    ·rw[ba hw]at e2;exact⟨_,_,es2,_,i2,.take ha,_,sJ ((sP e2).trans rfl)⟩
    ·rw[aO hw]at e2;rw[rX ((sf e2).trans (show _=some (Out.nx ρ2) from rfl))];obtain⟨b,es3,hb,i3,h3⟩:=pk (ρ:=ρ2) (i:=2) (j:=1) h0 i2 rfl rfl;exact⟨_,_,es3,_,i3,.put ha hb,_,sH (uX (rW rfl (rW rfl (rW h3 rfl))) (bT rfl))⟩
 obtain⟨c,f,es',x4,i',cm,x3,run⟩:=run;refine⟨c,f,es',i',cm,?_⟩;unfold vH fnL;rw[aj (show [sp].length=1 from rfl),run];rfl
end
section
variable{y:Str}{T:List Th}{M:List Mk}{dk:aF}{A:List (Str×Str)}
inductive Tm(A:List (Str×Str)) (y:Str):L4.D->Str->Str->Prop
 |it1 (a:Str):Tm A y (.tup [.str "take", .str a,.non]) "it" a
 |it2 (a b:Str):Tm A y (.tup [.str "put", .str a,.str b]) "it" a
 |oth (a b:Str):Tm A y (.tup [.str "put", .str a,.str b]) "other" b
 |nm (c:L4.D) {x:Str}:Nm x->Tm A y c x x
 |here (c:L4.D) {r:Str}:(y,r)∈A->Tm A y c "here" r
theorem aaG(k:Kd):dIn false (.str k.s) (.lst [.str "room", .str "box", .str "you"])=some (.bl k.hd):=by cases k<;>kernel_rfl
theorem Rf(cm:Cm sm c f):dIn false (.str f) (.lst [.str "one", .str "two"])=some (.bl (decide (f="one" \/ f="two"))):=by cases cm<;>kernel_rfl
theorem is2(cm:Cm sm c f):dEq false (.str f) (.str "two")=some (.bl (decide (f="two"))):=by cases cm<;>kernel_rfl
theorem nmN(g:Good T M dk)(h:x∈nmK T p):Nm x:=g.nm _ (bK _ ((ue T p).subset h))
theorem MX{sm:aF}{c:L4.D}{f:Str}(cm:Cm sm c f){t:Str}(h:(t="it" /\ (f="one" \/ f="two"))\/(t="other" /\ f="two")):∃z,Tm A y c t z/\z∈sm:=by
 cases cm with
 |go z=>rcases h with ⟨_,h|h⟩|⟨_,h⟩<;>exact au h (by decide)
 |wait=>rcases h with ⟨_,h|h⟩|⟨_,h⟩<;>exact au h (by decide)
 |@take a ha=>
  rcases h with ⟨rfl,_⟩|⟨_,h⟩
  ·exact⟨a,.it1 a,ha⟩
  ·exact au h (by decide)
 |@put a b ha hb=>
  rcases h with ⟨rfl,_⟩|⟨rfl,_⟩
  ·exact⟨a,.it2 a b,ha⟩
  ·exact⟨b,.oth a b,hb⟩
def itL(n:Nat)(f:Str):aF:=if f="one" \/ f="two" then eE n "it" else []
def otL(f:Str):aF:=if f="two" then ["other", "other"]else []
theorem Rg{sm:aF}{c:L4.D}{f:Str}(cm:Cm sm c f){n:Nat}{t:Str}(h:t∈itL n f\/t∈otL f):∃z,Tm A y c t z/\z∈sm:=by
 refine MX cm ?_;rcases h with h|h
 ·unfold itL at h;split at h
  ·rename_i e;exact .inl ⟨(List.mem_replicate.mp h).2,e⟩
  ·cases h
 ·unfold otL at h;split at h
  ·rename_i e;refine .inr ⟨?_,e⟩;rcases aN.mp h with h|h
   ·exact h
   ·exact aR.mp h
  ·cases h
abbrev jw:=(rV (cC (.str "one")) (rV (cC (.str "two")) sI))
abbrev jx:=(cC (.str "two"))
abbrev lV:=(cC (.str "other"))
theorem Rh(g:Good T M dk)(cm:Cm (nmK T Kd.pl) c f)(hr:∃r,(y,r)∈A/\r∈T.map Th.n)(hi:IL es):∃p w es',IL es'/\Tm A y c p w/\w∈T.map Th.n/\xU es [sS T M dk y,.str f]=some (.str p,es'):=by
 let sp:=sS T M dk y;let hs:=nmK T Kd.hd;let L:L4.D:=.lst (hs.map D.str);have hl:=g.len;have h0:hs≠[]:=λe=>by have:=g.r1;obtain⟨t,ht⟩:=l7 (by omega:0<(T.filter λt=>decide (t.k=.room)).length);rw[bO]at ht;have hm:t.n∈hs:=aK.mpr ⟨t,bO.mpr ⟨ht.1,by rw[bu ht.2];rfl⟩,rfl⟩;rw[e]at hm;cases hm
 let ρ:List L4.D->Sl->bg:=λes s=>[.im sp,.im (.str f),.pm es,.im L,s];obtain⟨a,es1,ha,i1,e1⟩:=pk (ρ:=ρ es .un) (i:=3) (j:=2) h0 hi rfl rfl;obtain⟨b,es2,hb,i2,e2⟩:=pk (ρ:=ρ es1 .un) (i:=3) (j:=2) h0 i1 rfl rfl;let P1:aF:=[a,b,"here"]++itL 1 f;let P2:aF:=P1++otL f;have hP:∀t∈P2,∃w,Tm A y c t w/\w∈T.map Th.n:=λt ht=>by
  have sub:∀{p:Kd->Bool} {x:Str},x∈nmK T p->x∈T.map Th.n:=λh=>(ue T _).subset h;rcases bC.mp ht with ht|ht
  ·rcases bC.mp ht with ht|ht
   ·rcases aN.mp ht with rfl|ht
    ·exact⟨_,.nm c (nmN g ha),sub ha⟩
    ·rcases aN.mp ht with rfl|ht
     ·exact⟨_,.nm c (nmN g hb),sub hb⟩
     ·rw[aR.mp ht];obtain⟨r,h1,h2⟩:=hr;exact⟨r,.here c h1,h2⟩
   ·obtain⟨z,h1,h2⟩:=Rg (A:=A) (y:=y) cm (.inl ht);exact⟨z,h1,sub h2⟩
  ·obtain⟨z,h1,h2⟩:=Rg (n:=1) (A:=A) (y:=y) cm (.inr ht);exact⟨z,h1,sub h2⟩
 have lP:P2.length<=10:=by show (([a,b,"here"]++itL 1 f)++otL f).length<=10;unfold itL otL;split<;>split<;>simp
 have s1:(sIf (cT (c2 (dIn false) af (cL (sN jw)))) (sY (vX 4 (cC (.str "it")))) sF:FS) (ρ es2 (.ls ([a,b,"here"].map D.str)))=some (.nx (ρ es2 (.ls (P1.map D.str)))):=by
  have et:cT (c2 (dIn false) af (cL (sN jw))) (ρ es2 (.ls ([a,b,"here"].map D.str)))=some (decide (f="one" \/ f="two"),ρ es2 (.ls ([a,b,"here"].map D.str))):=tN (se (x:=.str f) (y:=.lst [.str "one", .str "two"]) rfl rfl (Rf cm));by_cases h:f="one" \/ f="two"
  ·rw[ba h]at et;show _=some (Out.nx (ρ es2 (.ls (([a,b,"here"]++itL 1 f).map D.str))));unfold itL;rw[aj h];exact(sP et).trans rfl
  ·rw[aO h]at et;show _=some (Out.nx (ρ es2 (.ls (([a,b,"here"]++itL 1 f).map D.str))));unfold itL;rw[ao h];exact(sf et).trans rfl
 have s2:(sIf (cT (c2 (dEq false) af jx)) (uT 4 (uW (cFz 4) (cL (sN (rV lV (rV lV sI)))))) sF:FS) (ρ es2 (.ls (P1.map D.str)))=some (.nx (ρ es2 (.ls (P2.map D.str)))):=by
  have et:cT (c2 (dEq false) af jx) (ρ es2 (.ls (P1.map D.str)))=some (decide (f="two"),ρ es2 (.ls (P1.map D.str))):=tN (se (x:=.str f) (y:=.str "two") rfl rfl (is2 cm));by_cases h:f="two"
  ·rw[ba h]at et;have e:P2=P1++(["other", "other"]:aF):=by show P1++otL f=_;unfold otL;rw[aj h]
   rw[e]at lP ⊢;rw[aC]at lP;refine(sP et).trans ((zy (wZ (xs:=P1.map D.str) (ys:=[.str "other", .str "other"]) (ρ1:=ρ es2 (.im (.lst (P1.map D.str)))) rfl rfl (by rw[ah];simp at lP ⊢;omega))).trans ?_);rw[bj (l₁:=P1)];rfl
  ·rw[aO h]at et;have e:P2=P1:=by show P1++otL f=_;unfold otL;rw[ao h,bz]
   rw[e];exact(sf et).trans rfl
 have hne:P2≠[]:=λe=>by have:=aU bY e;simp[P2,P1]at this
 obtain⟨p,es3,hp,i3,e3⟩:=Jd (ρ:=ρ es2 (.ls (P2.map D.str))) (i:=2) (j:=4) (Hs:=P2) i2 hne rfl rfl rfl (λes'=>rfl);obtain⟨w,tm,hw⟩:=hP p hp;refine⟨p,w,es3,i3,tm,hw,?_⟩;have run:xT (stL 5 es [sp,.str f])=some (.rt (.str p) (ρ es3 (.ls (P2.map D.str)))):=by unfold xT;refine(rX (ρ':=ρ es .un) ((sE (tJ (rZ (ds:=[sp,.lst [.str "room", .str "box", .str "you"]]) (rW rfl (rW rfl rfl)) (of_ok (by omega) Kd.hd aaG)))).trans rfl)).trans ?_;refine(rX (ρ':=ρ es2 (.ls ([a,b,"here"].map D.str))) ((zy (As (rW e1 (rW e2 (rW rfl rfl))) (bT rfl))).trans rfl)).trans ?_;refine(rX s1).trans ((rX s2).trans ?_);exact(sH e3).trans rfl
 unfold xU fnL;rw[aj (show [sp,D.str f].length=2 from rfl),run];rfl
end
section
variable{A:List (Str×Str)}{V:List (Str×Int)}{S:List (Ky×L4.D)}{y:Str}{T:List Th}{M:List Mk}{dk:aF}{mo:L4.D}
theorem Rj(h:Cm sm c f):∃k a b,c=.tup [k,a,b]:=by cases h<;>exact⟨_,_,_,rfl⟩
theorem xX(a:yY A y)(tm:Tm A y c t z)(hc:∃k a b,c=.tup [k,a,b]):wU [sS T M dk y,atD A,c,.str t]=some (.str z):=by
 let ρ:bg:=[.im (sS T M dk y),.im (atD A),.im c,.im (.str t)];obtain⟨r,hr⟩:=a.yo;have gen:∀k d e:L4.D,c=.tup [k,d,e]->He (za [("it", (c2 dIx ar aD)),("other", (c2 dIx ar bM)),("here", (c2 tq af (c2 tq aa eM)))]) av av ρ=some ((uG [kS "it", kS "other", kS "here"] [d,e,.str r] (kS t)).getD (.str t),ρ):=λk d e ee=>by subst ee;have ed:=MO (Et (x:="it") (f:=c2 dIx ar aD) (ρ:=ρ) (se (x:=.tup [k,d,e]) (y:=.int 1) rfl rfl rfl) (Et (x:="other") (f:=c2 dIx ar bM) (se (x:=.tup [k,d,e]) (y:=.int 2) rfl rfl rfl) (Et (x:="here") (f:=c2 tq af (c2 tq aa eM)) (r:=[]) (se (x:=atD A) (y:=.str y) rfl rfl (Bi a hr)) rfl)));unfold He;rw[ed];rfl
 refine sv (ρ:=ρ) rfl (sH ?_);cases tm with
 |it1 a=>exact gen _ _ _ rfl
 |it2 a b=>exact gen _ _ _ rfl
 |oth a b=>exact gen _ _ _ rfl
 |here c h=>obtain⟨k,d,e,ee⟩:=hc;rw[MQ a.nd h hr];exact gen k d e ee
 |nm c hx=>
  obtain⟨k,d,e,ee⟩:=hc;have n:=LP hx;refine(gen k d e ee).trans ?_;rw[Ba λw=>?_]
  ·rfl
  ·rcases aN.mp w with w|w
   ·exact n (by rw[F9 w];simp)
   ·rcases aN.mp w with w|w
    ·exact n (by rw[F9 w];simp)
    ·exact n (by rw[F9 (aR.mp w)];simp)
theorem Bj(a:yY A y)(o:DG A V S)(tm:Tm A y c t z):wI [wO T M dk y mo,sD S,c,.str t]=some (.str z):=by
 cases tm with
 |it1 a=>exact MW (Um _ _)
 |it2 a b=>exact MW (Re _ _)
 |oth a b=>exact LQ (Re _ _)
 |nm c hx=>exact Uo hx
 |here c h=>exact Oq a o h
end
section
variable{y:Str}{T:List Th}{M:List Mk}{dk:aF}{A:List (Str×Str)}
abbrev mks(T:List Th)(M:List Mk):aF:=nmK T Kd.mk++M.map Mk.n
theorem ndM(g:Good T M dk):(mks T M).Nodup:=g.nd.sublist ((ue T _).append (fg _))
theorem MY(g:Good T M dk):(mks T M).length<=11:=by
 unfold mks;rw[aC,ah];have h2:=LL (T:=T) (p:=Kd.mk) (q:=Kd.pl) λk h=>by cases k<;>first|rfl|cases h
 have h3:=g.p7;have h4:=g.m4;omega
theorem HS:∀V:List (Str×Int),DU (V.map λq=>kS q.1)=some (V.map aG)
 |[]=>rfl
 |q::V=>by rw[az,az];show (DU _).map _=_;rw[HS V];rfl
theorem Rk{V:List (Str×Int)}(h:e ρ=some (dcI V,ρ))(hl:V.length<64):Dv e ρ=some ((xI (V.map aG)).map D.str,ρ):=by unfold Dv;rw[h];simp only[HS,ah,hl,if_true]
theorem vV(h:c ρ=some (true,ρ1)):vp c c' ρ=c' ρ1:=by unfold vp;rw[h]
theorem xY(h:c ρ=some (false,ρ1)):vp c c' ρ=some (false,ρ1):=by unfold vp;rw[h]
abbrev pI:=(rV (cC (.str "it")) (rV lV sI))
abbrev pK:=(rV (c2 dIx (cL (sN (rV (cC (.str "it")) (rV (c2 dIx (cL (sN pI)) (c1 JI (c2 (dEq false) af jx))) sI)))) (tu rY 2 l5)) (rV (tu rY 2 (rV fE sI)) sI))
theorem Os(g:Good T M dk)(cm:Cm (nmK T Kd.pl) c f)(hi:IL es)(hf:f="one" \/ f="two" \/ moL T M≠[]):∃t z v es',IL es'/\Tm A y c t z/\vZ es [sS T M dk y,.str f]=some (.tup [.str t,.int v],es'):=by
 let sp:=sS T M dk y;obtain⟨V,em,v1,v2,rfl⟩:=Gg (y:=y) g;let N:=xI ((moL T M).map aG);let L:L4.D:=.lst (N.map D.str);have hN:∀x,x∈N ↔ x∈(moL T M).map aG:=λx=>(iN _ leS).mem_iff;have hl:(moL T M).length<=11:=by have:=MY g;have h:=aU bY v1;rw[ah]at h;rw[h];exact this
 let ρ:List L4.D->Sl->bg:=λes s=>[.im sp,.im (.str f),.pm es,.im (dcI (moL T M)),.im L,s];have byit:∀es1,IL es1->(f="one" \/ f="two")->∃t z v es',IL es'/\Tm A y c t z/\(sy (tL pK):FS) (ρ es1 .un)=some (.rt (.tup [.str t,.int v]) (ρ es' .un)):=λes1 i1 h=>by
  obtain⟨r,es2,i2,r0,r1,h2⟩:=tk (ρ:=ρ es1 .un) (j:=2) (e:=cC (.int 2)) (n:=2) (by decide) i1 rfl rfl;obtain⟨v,es3,i3,_,_,h3⟩:=tk (ρ:=ρ es2 .un) (j:=2) (e:=cC (.int 4)) (n:=4) (by decide) i2 rfl rfl;have fin:∀b:Str,c2 dIx (cL (sN pI)) (c1 JI (c2 (dEq false) af jx)) (ρ es1 .un)=some (.str b,ρ es1 .un)->(sy (tL pK):FS) (ρ es1 .un)=some (.rt (.tup [.str (if r=0 then "it" else b),.int v]) (ρ es3 .un)):=λb eb=>by
   have ez:(if r=0 then D.str "it" else .str b)=.str (if r=0 then "it" else b):=by split<;>rfl
   exact sH (uX (rW (se (x:=.lst [.str "it", .str b]) (y:=.int r) (ρ1:=ρ es1 .un) (tJ (As (rW rfl (rW eb rfl)) (bT rfl))) h2 ((LR r0 r1).trans (aU some ez))) (rW h3 rfl)) (bT rfl))
  cases cm with
  |go z=>rcases h with h|h<;>exact au h (by decide)
  |wait=>rcases h with h|h<;>exact au h (by decide)
  |@take a ha=>refine⟨_,a,v,es3,i3,?_,fin "it" (by kernel_rfl)⟩;rw[ite_self];exact .it1 a
  |@put a b ha hb=>
   by_cases hr:r=0
   ·refine⟨_,a,v,es3,i3,?_,fin "other" (by kernel_rfl)⟩;rw[aj hr];exact .it2 a b
   ·refine⟨_,b,v,es3,i3,?_,fin "other" (by kernel_rfl)⟩;rw[ao hr];exact .oth a b
 have byname:∀es1,IL es1->N≠[]->∃t z v es' s,IL es'/\Tm A y c t z/\(r6 (sO 5 (c2 dIx aw (tu rY 2 (rV (c1 uw aw) sI))))
   (sy (tL (rV aE (rV (tu rY 2 (rV (c2 tU (c2 tq av aE) aD) sI)) sI)))):FS) (ρ es1 .un)=some (.rt (.tup [.str t,.int v]) (ρ es' s)):=λes1 i1 h=>by
  obtain⟨x,es2,hx,i2,h2⟩:=pk (ρ:=ρ es1 .un) (i:=4) (j:=2) h i1 rfl rfl;obtain⟨q,hq,rfl⟩:=aK.mp ((hN x).mp hx);have h1:=v2 q hq;have hm:q.1∈mks T M:=by show q.1∈nmK T Kd.mk++M.map Mk.n;rw[<-v1];exact aK.mpr ⟨q,hq,rfl⟩
  have nm:Nm q.1:=g.nm _ (((ue T Kd.mk).append (fg _)).subset hm);rw[rX ((sE h2).trans (show _=some (Out.nx (ρ es2 (.im (.str q.1)))) from rfl))];obtain⟨v,es3,i3,_,_,h3⟩:=tk (ρ:=ρ es2 (.im (.str q.1))) (j:=2) (e:=c2 tU (c2 tq av aE) aD) (n:=q.2+1) (by omega) i2 rfl (se (x:=.int q.2) (y:=.int 1) (se (x:=dcI (moL T M)) (y:=.str q.1) rfl rfl (LO (by rw[v1];exact ndM g) (x:=q.1) (z:=q.2) hq)) rfl rfl);exact⟨q.1,q.1,v,es3,_,i3,.nm c nm,sH (uX (rW rfl (rW h3 rfl)) (bT rfl))⟩
 have run:∃t z v es' s,IL es'/\Tm A y c t z/\xm (stL 6 es [sp,.str f])=some (.rt (.tup [.str t,.int v]) (ρ es' s)):=by
  unfold xm;rw[rX ((sE (rZ (ds:=[sp]) (ρ1:=[.im sp,.im (.str f),.pm es,.un,.un,.un]) rfl em)).trans (show _=some (Out.nx [.im sp,.im (.str f),.pm es,.im (dcI (moL T M)),.un,.un]) from rfl))];rw[rX ((sE (tJ (Rk (V:=moL T M) rfl (by omega)))).trans (show _=some (Out.nx (ρ es .un)) from rfl))];by_cases h12:f="one" \/ f="two"
  ·have e1:cT (c2 (dIn false) af (cL (sN jw))) (ρ es .un)=some (true,ρ es .un):=by rcases h12 with h|h<;>(subst h;kernel_rfl)
   by_cases h0:N=[]
   ·obtain⟨t,z,v,es',i',tm,e⟩:=byit es hi h12;exact⟨t,z,v,es',.un,i',tm,sJ ((sP ((vV e1).trans (A5 (tN (se (x:=L) (y:=.lst []) rfl rfl (by show dEq false (.lst (N.map D.str)) _=_;rw[h0];rfl)))))).trans e)⟩
   ·have e2:cT (c2 (dEq false) aw (cL (sN sI))) (ρ es .un)=some (false,ρ es .un):=tN (se (x:=L) (y:=.lst []) rfl rfl (by
     show dEq false (.lst (N.map D.str)) _=_;obtain⟨a,r,e⟩:=gu h0;rw[e];exact Eu a r))
    obtain⟨r,es1,i1,_,_,h1⟩:=tk (ρ:=ρ es .un) (j:=2) (e:=cC (.int 2)) (n:=2) (by decide) hi rfl rfl;have e3:=(vV e1).trans (zA e2 (tN (se (e':=cC (.int 0)) h1 rfl (vQ false r 0))));by_cases hr:r=0
    ·obtain⟨t,z,v,es',i',tm,e⟩:=byit es1 i1 h12;rw[ba hr]at e3;exact⟨t,z,v,es',.un,i',tm,sJ ((sP e3).trans e)⟩
    ·obtain⟨t,z,v,es',s,i',tm,e⟩:=byname es1 i1 h0;rw[aO hr]at e3;exact⟨t,z,v,es',s,i',tm,(rX ((sf e3).trans rfl)).trans e⟩
  ·have h0:N≠[]:=λh=>by
    rcases hf with h'|h'|h'
    ·exact h12 (.inl h')
    ·exact h12 (.inr h')
    ·obtain⟨q,r,e⟩:=gu h';have:q.1∈N:=(hN _).mpr (by rw[e];exact aY ..);rw[h]at this;cases this
   have e1:cT (c2 (dIn false) af (cL (sN jw))) (ρ es .un)=some (false,ρ es .un):=tN (se (x:=.str f) (y:=.lst [.str "one", .str "two"]) rfl rfl ((uK false f ["one", "two"]).trans (by simp;exact⟨λh=>h12 (.inl h),λh=>h12 (.inr h)⟩)));obtain⟨t,z,v,es',s,i',tm,e⟩:=byname es hi h0;exact⟨t,z,v,es',s,i',tm,(rX ((sf (xY e1)).trans rfl)).trans e⟩
 obtain⟨t,z,v,es',s,i',tm,run⟩:=run;refine⟨t,z,v,es',i',tm,?_⟩;unfold vZ fnL;rw[aj (show [sp,D.str f].length=2 from rfl),run];rfl
end
section
variable{y:Str}{T:List Th}{M:List Mk}{dk:aF}{A:List (Str×Str)}
theorem MZ(l:aF)(lo hi:Option Int):∃l':aF,cutD (l.map D.str) lo hi=l'.map D.str/\(∀x∈l',x∈l)/\l'.length<=l.length:=
 ⟨(l.drop (HT.sIx l.length 0 lo)).take (HT.sIx l.length l.length hi - HT.sIx l.length 0 lo),by unfold cutD;rw[ah,<- fV,<- fo],λx hx=>jU (mN hx),by rw[bw,cg];omega⟩
theorem M0{ρ:Sl->bg}{c:FT}{b:Bool}{e:FA}{P ys:aF}(hs:∀d s,(ρ s).set 4 (.im d)=ρ (.im d))(h4:∀d,cV 4 (ρ (.im d))=some (d,ρ (.im d)))(hc:∀s,c (ρ s)=some (b,ρ s))(he:∀s,e (ρ s)=some (ys.map D.str,ρ s))(hl:P.length+ys.length<=900):
  (sIf c (sO 4 (cL (uW aw (cL e)))) sF:FS) (ρ (.im (.lst (P.map D.str))))=some (.nx (ρ (.im (.lst ((P++if b then ys else []).map D.str))))):=by
 cases b with
 |false=>exact(sf (hc _)).trans (by rw[ao bA,bz];rfl)
 |true=>refine(sP (hc _)).trans ((sE (tJ (wZ (xs:=P.map D.str) (ys:=ys.map D.str) (h4 _) (tJ (he _)) (by rw[ah,ah];omega)))).trans ?_);rw[hs,aj rfl,bj]
theorem Ur(g:Good T M dk)(cm:Cm (nmK T Kd.pl) c f)(hr:∃r,(y,r)∈A/\r∈T.map Th.n)(hi:IL es):∃t z es',IL es'/\Tm A y c t z/\z∈T.map Th.n/\vJ es [sS T M dk y,.str f]=some (.str t,es'):=by
 let sp:=sS T M dk y;let N:=T.map Th.n;have hl:=g.len;let ρ:List L4.D->Sl->bg:=λes s=>[.im sp,.im (.str f),.pm es,.im (.lst (N.map D.str)),s];have hN:0<N.length:=by have h1:=g.r1;have h2:=eV (λt:Th=>decide (t.k=.room)) T;show 0<(T.map Th.n).length;rw[ah];omega
 have lN:N.length=T.length:=ah _;obtain⟨r,es1,i1,_,_,e1⟩:=tk (ρ:=ρ es .un) (j:=2) (e:=c1 uw av) (n:=N.length) (by omega) hi rfl (tQ rfl (by show some (D.int ((N.map D.str).length:Nat))=_;rw[ah]));obtain⟨l1,cq1,m1,n1⟩:=MZ N (some r) none;obtain⟨l2,cq2,m2,n2⟩:=MZ l1 none (some 3);let P0:aF:=l2++(["here"]:aF);let P1:aF:=P0++if decide (f="one" \/ f="two")then (["it", "it", "it"]:aF)else []
 let P2:aF:=P1++if decide (f="two")then (["other", "other"]:aF)else []
 have lP0:P0.length<=300:=by show (l2++(["here"]:aF)).length<=300;rw[aC];simp;omega
 have lP1:P1.length<=303:=by show (P0++if decide (f="one" \/ f="two")then (["it", "it", "it"]:aF)else []).length<=303;rw[aC];split<;>simp<;>omega
 have hP:∀t∈P2,∃w,Tm A y c t w/\w∈T.map Th.n:=λt ht=>by
  have byc:((t="it" /\ (f="one" \/ f="two"))\/(t="other" /\ f="two"))->∃w,Tm A y c t w/\w∈T.map Th.n:=λh=>by obtain⟨z,h1,h2⟩:=MX (A:=A) (y:=y) cm h;exact⟨z,h1,(ue T _).subset h2⟩
  rcases bC.mp ht with ht|ht
  ·rcases bC.mp ht with ht|ht
   ·rcases bC.mp ht with ht|ht
    ·have h:=m1 _ (m2 _ ht);exact⟨t,.nm c (g.nm _ (bK _ h)),h⟩
    ·rw[aR.mp ht];obtain⟨r,h1,h2⟩:=hr;exact⟨r,.here c h1,h2⟩
   ·split at ht
    ·rename_i h;refine byc (.inl ⟨?_,bu h⟩);simpa using ht
    ·cases ht
  ·split at ht
   ·rename_i h;refine byc (.inr ⟨?_,bu h⟩);simpa using ht
   ·cases ht
 have hne:P2≠[]:=λe=>by have:=aU bY e;simp[P2,P1,P0]at this
 obtain⟨t,es2,ht,i2,e2⟩:=pk (ρ:=ρ es1 (.im (.lst (P2.map D.str)))) (i:=4) (j:=2) hne i1 rfl rfl;obtain⟨z,tm,hz⟩:=hP t ht;refine⟨t,z,es2,i2,tm,hz,?_⟩;have run:xA (stL 5 es [sp,.str f])=some (.rt (.str t) (ρ es2 (.im (.lst (P2.map D.str))))):=by
  unfold xA;have ec:=Ah (k:=3) (cap:=[]) (s:=iL (c2 tq aa dU)) (g:=gT cZ 3) (fe:=cV 0) (λt:Th=>sT t.rw) (λt=>D.str t.n) T (ρ:=[.im sp,.im (.str f),.pm es,.un,.un]) (ρ1:=[.im sp,.im (.str f),.pm es,.un,.un]) rfl (by omega) λt _=>⟨_,_,rfl,rfl,rfl⟩;refine(rX (ρ':=ρ es .un) ((sE (tJ ec)).trans ?_)).trans ?_
  ·show _=some (Out.nx [.im sp,.im (.str f),.pm es,.im (.lst ((T.map Th.n).map D.str)),.un]);rw[aZ];rfl
  refine(rX (ρ':=ρ es1 (.im (.lst (P0.map D.str)))) ((sE (tJ (wZ (xs:=l2.map D.str) (ys:=[.str "here"]) (ρ1:=ρ es1 .un) (ρ2:=ρ es1 .un) (tJ ?_) rfl (by rw[ah];simp;omega)))).trans ?_)).trans ?_
  ·have h1:xK av (oAt (tu rY 2 iu)) oNo (ρ es .un)=some (l1.map D.str,ρ es1 .un):=by unfold xK oAt;show (match (match tu rY 2 (rV (c1 uw av) sI) (ρ es .un)with|some (.int i,ρ')=>some (some i,ρ')|_=>none)with|some (l,ρ2)=>some (cutD (N.map D.str) l none,ρ2)|none=>none)=_;rw[e1];show some (cutD (N.map D.str) (some r) none,ρ es1 .un)=_;rw[cq1]
   unfold cSl;rw[tJ h1];show some (cutD (l1.map D.str) none (some 3),ρ es1 .un)=_;rw[cq2]
  ·rw[show P0.map D.str=l2.map D.str++[.str "here"] from bj];rfl
  refine(rX (M0 (ρ:=ρ es1) (P:=P0) (e:=sN pW) (ys:=["it", "it", "it"]) (λ_ _=>rfl) (λ_=>rfl) (λs=>tN (se (x:=.str f) (y:=.lst [.str "one", .str "two"]) rfl rfl (Rf cm))) (λ_=>rfl) (by simp;omega))).trans ?_;refine(rX (M0 (ρ:=ρ es1) (P:=P1) (e:=sN lQ) (ys:=["other", "other"]) (λ_ _=>rfl) (λ_=>rfl) (λs=>tN (se (x:=.str f) (y:=.str "two") rfl rfl (is2 cm))) (λ_=>rfl) (by simp;omega))).trans ?_;exact(sH e2).trans rfl
 unfold vJ fnL;rw[aj (show [sp,D.str f].length=2 from rfl)];rw[show xA (stL 5 es [sS T M dk y,.str f])=_ from run];rfl
end
section
variable{y:Str}{T:List Th}{M:List Mk}{dk:aF}{A:List (Str×Str)}
abbrev Tn(A:List (Str×Str))(y:Str)(c c':L4.D)(t z:Str):Prop:=Tm A y c t z/\Tm A y c' t z
inductive Ak(T:List Th) (A:List (Str×Str)) (y:Str) (c c':L4.D):Nat->L4.D->Prop
 |at {n:Nat} {t p z w:Str}:Tn A y c c' t z->Tn A y c c' p w->Ak T A y c c' n (.tup [.str "at", .str t,.str p])
 |has {n:Nat} {t z:Str}:Tn A y c c' t z->Ak T A y c c' n (.tup [.str "has", .str t])
 |seen {n:Nat} {t z:Str}:Tn A y c c' t z->z∈T.map Th.n->Ak T A y c c' n (.tup [.str "seen", .str t])
 |kind {n:Nat} {t z:Str} (k:Str):noT k=true->Tn A y c c' t z->z∈T.map Th.n->Ak T A y c c' n (.tup [.str "kind", .str t,.str k])
 |word {n:Nat} (x z:Str):c=.tup [.str "go", .str z,.non]->c'=c->Ak T A y c c' n (.tup [.str "word", .str x])
 |marked {n:Nat} {t z:Str} (v:Int):Tn A y c c' t z->Ak T A y c c' n (.tup [.str "marked", .str t,.int v])
 |lit {n:Nat}:Ak T A y c c' n (.tup [.str "lit"])
 |no {n:Nat} {a:L4.D}:Ak T A y c c' n a->Ak T A y c c' (n+1) (.tup [.str "not", a])
 |both {n:Nat} {a b:L4.D}:Ak T A y c c' n a->Ak T A y c c' n b->Ak T A y c c' (n+1) (.tup [.str "both", a,b])
theorem yK(h1:a ρ=some (ds,ρ1))(h2:uq ρ1 i=some es)(h3:g es ds=some (d,es')):uc g i a ρ=some (d,putAt ρ1 i es'):=by unfold uc;rw[h1];simp only[h2,h3]
theorem YM(h1:f ρ=some (d,ρ1))(h2:gg d ρ1=some ρ2):K7 f gg ρ=some (.nx ρ2):=by unfold K7;rw[h1];simp only[h2]
theorem M4{l:aF}{r:Int}(h0:0<=r)(h1:r<l.length):∃x,x∈l/\dIx (.lst (l.map D.str)) (.int r)=some (.str x):=by
 obtain⟨m,rfl⟩:=cz h0;have hm:m<l.length:=by omega
 exact⟨_,dh hm,vc (aP hm)⟩
theorem Us(h:n<=3)(a b p q r s t:Sl):c2 dIx (cL (sN lR)) (c1 JI (c2 Fk av aD)) [a,b,p,.im (.int ((n+1:Nat):Int)),q,r,s,t]=some (.int (if n=0 then 7 else 10),[a,b,p,.im (.int ((n+1:Nat):Int)),q,r,s,t]):=by
 match n,h with
 |0,_=>kernel_rfl
 |1,_=>kernel_rfl
 |2,_=>kernel_rfl
 |3,_=>kernel_rfl
theorem KE(g:Good T M dk){c:L4.D}{f:Str}(cm:Cm (nmK T Kd.pl) c f)(hr:∃r,(y,r)∈A/\r∈T.map Th.n){n:Nat}(hn:n<=3)
  (ih:∀m,n=m+1->∀es,IL es->∃d es',IL es'/\Ak T A y c c m d/\sV n es [sS T M dk y,.str f,.int n]=some (d,es')) {es:List L4.D} (hi:IL es):∃d es',IL es'/\Ak T A y c c n d/\sV (n+1) es [sS T M dk y,.str f,.int ((n+1:Nat):Int)]=some (d,es'):=by
 let dp:Int:=((n+1:Nat):Int);let sp:=sS T M dk y;let ρ:List L4.D->Sl->Sl->Sl->Sl->bg:=λes a b p q=>[.im sp,.im (.str f),.pm es,.im (.int dp),a,b,p,q];have suf:∀{d:L4.D} {es':List L4.D} {a b p q:Sl},uj (sV n) (ρ es .un .un .un .un)=some (.rt d (ρ es' a b p q))->sV (n+1) es [sS T M dk y,.str f,.int dp]=some (d,es'):=λ{d es' a b p q} run=>by unfold sV fnJ;rw[aj (show [sp,D.str f,.int dp].length=3 from rfl)];rw[show uj (sV n) (stJ 2 8 es [sS T M dk y,.str f,.int dp])=_ from run];rfl
 obtain⟨r,es1,i1,r0,r1,e1⟩:=tk (ρ:=ρ es .un .un .un .un) (j:=2) (e:=c2 dIx (cL (sN lR)) (c1 JI (c2 Fk av aD))) (n:=if n=0 then 7 else 10) (by split<;>decide) hi rfl (Us hn _ _ _ _ _ _ _);have fin:(∃d es' a b p q,IL es'/\Ak T A y c c n d/\uj (sV n) (ρ es .un .un .un .un)=some (.rt d (ρ es' a b p q)))->∃d es',IL es'/\Ak T A y c c n d/\sV (n+1) es [sS T M dk y,.str f,.int dp]=some (d,es'):=λ⟨d,es',a,b,p,q,h1,h2,h3⟩=>⟨d,es',h1,h2,suf h3⟩;refine fin ?_;unfold uj;rw[rX ((sE e1).trans (show _=some (Out.nx (ρ es1 (.im (.int r)) .un .un .un)) from rfl))];have trm:∀{es0:List L4.D} (s5:Sl),IL es0->∃t z es',IL es'/\Tm A y c t z/\z∈T.map Th.n/\uc vJ 2 cn (ρ es0 (.im (.int r)) s5 .un .un)=some (.str t,ρ es' (.im (.int r)) s5 .un .un):=λ{es0} s5 h=>by obtain⟨t,z,es',h1,h2,h3,h4⟩:=Ur (A:=A) (y:=y) g cm hr h;exact⟨t,z,es',h1,h2,h3,(yK (i:=2) (ds:=[sp,.str f]) (ρ1:=ρ es0 (.im (.int r)) s5 .un .un) rfl rfl h4).trans rfl⟩
 have hgo:f="way" -> ∃z,c=.tup [.str "go", .str z,.non]:=λh=>by
  cases cm with
  |go z=>exact⟨z,rfl⟩
  |_=>exact au h (by decide)
 have rest:(4<=r)->f≠"way" \/ r≠4->∀tl:FS,tl=(r6 (sIf (vp (cT (c2 Bl aw cU)) (xn (cT (c2 (dIn false) af (cL (sN fC)))) (cT (c2 TN (r9 u0 bN) (za []))))) (r6 (K7 (uc vZ 2 cn) (gT pJ 2))
   (sy (tL pX))) sF)
   (r6 (sIf (cT (c2 Bl aw dA)) (sy (tL jC)) sF)
   (r6 (sIf (cT (c2 (dEq false) aw dA)) (sy (tL (rV eR (a1 (uc (sV n) 2 fH))))) sF)
   (sy (tL (rV dQ (rV (uc (sV n) 2 fH) (a1 (uc (sV n) 2 fH)))))))))->∃d es' a b p q,IL es'/\Ak T A y c c n d/\tl (ρ es1 (.im (.int r)) .un .un .un)=some (.rt d (ρ es' a b p q)):=λh4 hw tl et=>by
  subst et;obtain⟨V,em,v1,v2,rfl⟩:=Gg (y:=y) g;have lit:r<7->∀{tl:FS},(r6 (sIf (cT (c2 Bl aw dA)) (sy (tL jC)) sF) tl:FS) (ρ es1 (.im (.int r)) .un .un .un)=some (.rt (.tup [.str "lit"]) (ρ es1 (.im (.int r)) .un .un .un)):=λh7 {tl}=>sJ ((sP (ρ':=ρ es1 (.im (.int r)) .un .un .un) (tN (se (x:=.int r) (y:=.int 7) rfl rfl (by show some (D.bl (decide (r<7)))=_;rw[ba h7])))).trans rfl);have lt:∀k:Int,cT (c2 Bl aw (cC (.int k))) (ρ es1 (.im (.int r)) .un .un .un)=some (decide (r<k),ρ es1 (.im (.int r)) .un .un .un):=λk=>rfl;by_cases h7:7<=r
  ·have hn0:n≠0:=λe=>by rw[aj e]at r1;omega
   obtain⟨m,em'⟩:=Nat.exists_eq_succ_of_ne_zero hn0;have rcr:∀es0,IL es0->∃d es',IL es'/\Ak T A y c c m d/\uc (sV n) 2 fH (ρ es0 (.im (.int r)) .un .un .un)=some (d,ρ es' (.im (.int r)) .un .un .un):=λes0 h=>by obtain⟨d,es',h1,h2,h3⟩:=ih m em' es0 h;refine⟨d,es',h1,h2,(yK (i:=2) (ds:=[sp,.str f,.int n]) (ρ1:=ρ es0 (.im (.int r)) .un .un .un) (rW rfl (rW rfl (rW (se (x:=.int dp) (y:=.int 1) rfl rfl ?_) rfl))) rfl h3).trans rfl⟩;show some (D.int (((n+1:Nat):Int) - 1))=_;congr 2;omega
   have n6:=lt 6;rw[aO (by omega)]at n6;have n7:=lt 7;rw[aO (by omega)]at n7;rw[rX ((sf (ρ':=ρ es1 (.im (.int r)) .un .un .un) (xY n6)).trans rfl),rX ((sf n7).trans rfl)];obtain⟨d1,es2,i2,k1,e2⟩:=rcr es1 i1;have q7:cT (c2 (dEq false) aw dA) (ρ es1 (.im (.int r)) .un .un .un)=some (decide (r=7),ρ es1 (.im (.int r)) .un .un .un):=tN (se (x:=.int r) (y:=.int 7) rfl rfl (vQ false r 7));by_cases h8:r=7
   ·rw[ba h8]at q7;exact⟨_,es2,_,_,_,_,i2,em'▸.no k1,sJ ((sP q7).trans (sH (uX (rW rfl (rW e2 rfl)) (bT rfl))))⟩
   ·rw[aO h8]at q7;obtain⟨d2,es3,i3,k2,e3⟩:=rcr es2 i2;exact⟨_,es3,_,_,_,_,i3,em'▸.both k1 k2,(rX ((sf q7).trans rfl)).trans (sH (uX (rW rfl (rW e2 (rW e3 rfl))) (bT rfl)))⟩
  by_cases hb:r<6/\(f="one" \/ f="two" \/ moL T M≠[])
  ·obtain⟨h6,hf⟩:=hb;obtain⟨t,z,v,es',i',tm,e⟩:=Os (A:=A) (y:=y) g cm i1 hf;refine⟨_,es',_,_,_,_,i',.marked v ⟨tm,tm⟩,sJ ((sP (ρ':=ρ es1 (.im (.int r)) .un .un .un) ?_).trans ((rX (YM (yK (ds:=[sp,.str f]) rfl rfl e) rfl)).trans rfl))⟩;refine(vV (ρ1:=ρ es1 (.im (.int r)) .un .un .un) ((lt 6).trans (by rw[ba h6]))).trans ?_;have e0:cT (c2 (dIn false) af (cL (sN fC))) (ρ es1 (.im (.int r)) .un .un .un)=some (decide (f="one" \/ f="two"),ρ es1 (.im (.int r)) .un .un .un):=tN (se (x:=.str f) (y:=.lst [.str "one", .str "two"]) rfl rfl (Rf cm));by_cases h12:f="one" \/ f="two"
   ·rw[ba h12]at e0;exact A5 e0
   ·rw[aO h12]at e0;have hm:moL T M≠[]:=by
     rcases hf with h|h|h
     ·exact au (.inl h) h12
     ·exact au (.inr h) h12
     ·exact h
    refine(zA e0 (tN (se (x:=dcI (moL T M)) (y:=.dic [] []) (rZ (ds:=[sp]) rfl em) rfl rfl))).trans ?_;obtain⟨q,l,e⟩:=gu hm;rw[e];rfl
  ·refine⟨_,es1,_,_,_,_,i1,.lit,(rX (ρ':=ρ es1 (.im (.int r)) .un .un .un) ((sf (ρ':=ρ es1 (.im (.int r)) .un .un .un) ?_).trans rfl)).trans (lit (by omega))⟩;by_cases h6:r<6
   ·have hn:¬(f="one" \/ f="two" \/ moL T M≠[]):=λh=>hb ⟨h6,h⟩;have h12:¬(f="one" \/ f="two"):=λh=>hn (h.elim .inl λh=>.inr (.inl h));have hm:moL T M=[]:=iH λh=>hn (.inr (.inr h));refine(vV (ρ1:=ρ es1 (.im (.int r)) .un .un .un) ((lt 6).trans (by rw[ba h6]))).trans ?_;have e0:cT (c2 (dIn false) af (cL (sN fC))) (ρ es1 (.im (.int r)) .un .un .un)=some (decide (f="one" \/ f="two"),ρ es1 (.im (.int r)) .un .un .un):=tN (se (x:=.str f) (y:=.lst [.str "one", .str "two"]) rfl rfl (Rf cm));rw[aO h12]at e0;refine(zA e0 (tN (se (x:=dcI (moL T M)) (y:=.dic [] []) (rZ (ds:=[sp]) rfl em) rfl rfl))).trans ?_;rw[hm];rfl
   ·have:r=6:=by omega
    subst this;exact xY rfl
 have cs:r=0\/r=1\/r=2\/r=3\/4<=r:=by omega
 rcases cs with rfl|rfl|rfl|rfl|h4
 ·obtain⟨t,z,es2,i2,tz,_,e2⟩:=trm .un i1;obtain⟨p,w,es3,i3,tw,_,e3⟩:=Rh (A:=A) (y:=y) g cm hr i2;exact⟨_,es3,_,_,_,_,i3,.at ⟨tz,tz⟩ ⟨tw,tw⟩,sJ ((sP rfl).trans (sH (uX (rW rfl (rW e2 (rW (yK (ds:=[sp,.str f]) rfl rfl e3) rfl))) (bT rfl))))⟩
 ·obtain⟨t,z,es2,i2,tz,_,e2⟩:=trm .un i1;exact⟨_,es2,_,_,_,_,i2,.has ⟨tz,tz⟩,(rX ((sf rfl).trans rfl)).trans (sJ ((sP rfl).trans (sH (uX (rW rfl (rW e2 rfl)) (bT rfl)))))⟩
 ·obtain⟨t,z,es2,i2,tz,hz,e2⟩:=trm .un i1;exact⟨_,es2,_,_,_,_,i2,.seen ⟨tz,tz⟩ hz,(rX ((sf rfl).trans rfl)).trans ((rX ((sf rfl).trans rfl)).trans (sJ ((sP rfl).trans (sH (uX (rW rfl (rW e2 rfl)) (bT rfl))))))⟩
 ·let ks:aF:=["room", "plain", "fixed", "box", "lamp", "you", "box", "lamp"];obtain⟨t,z,es2,i2,tz,hz,e2⟩:=trm (.im (.lst (ks.map D.str))) i1;obtain⟨q,es3,i3,q0,q1,e3⟩:=tk (ρ:=ρ es2 (.im (.int 3)) (.im (.lst (ks.map D.str))) .un .un) (j:=2) (e:=cC (.int 8)) (n:=8) (by decide) i2 rfl rfl;obtain⟨k,hk,ek⟩:=M4 (l:=ks) q0 q1;have nk:noT k=true:=bJ.mp (show ks.all noT=true by kernel_rfl) k hk;refine⟨_,es3,_,_,_,_,i3,.kind k nk ⟨tz,tz⟩ hz,(rX ((sf rfl).trans rfl)).trans ((rX ((sf rfl).trans rfl)).trans ((rX ((sf rfl).trans rfl)).trans (sJ ((sP rfl).trans ((rX (ρ':=ρ es1 (.im (.int 3)) (.im (.lst (ks.map D.str))) .un .un) rfl).trans (sH (uX (rW rfl (rW e2 (rW (se (x:=.lst (ks.map D.str)) rfl e3 ek) rfl))) (bT rfl)))))))) ⟩
 ·have n0:∀k:Int,k<4->∀{s t:FS},(r6 (sIf (cT (c2 (dEq false) aw (cC (.int k)))) s sF) t:FS) (ρ es1 (.im (.int r)) .un .un .un)=t (ρ es1 (.im (.int r)) .un .un .un):=λk hk s t=>rX ((sf (ρ':=ρ es1 (.im (.int r)) .un .un .un) (tN (se (x:=.int r) (y:=.int k) rfl rfl ((vQ false r k).trans (by rw[aO (by omega)];rfl))))).trans rfl);rw[n0 0 (by decide),n0 1 (by decide),n0 2 (by decide),n0 3 (by decide)];by_cases hw:f="way" /\ r=4
  ·obtain⟨rfl,rfl⟩:=hw;obtain⟨q,es3,i3,q0,q1,e3⟩:=tk (ρ:=ρ es1 (.im (.int 4)) .un .un .un) (j:=2) (e:=cC (.int 4)) (n:=4) (by decide) i1 rfl rfl;obtain⟨k,_,ek⟩:=M4 (l:=["north", "up", "down", "upp"]) q0 q1;exact⟨_,es3,_,_,_,_,i3,.word k _ (hgo rfl).choose_spec rfl,sJ ((sP (ρ':=ρ es1 (.im (.int 4)) .un .un .un) (by kernel_rfl)).trans (sH (uX (rW rfl (rW (se (x:=.lst [.str "north", .str "up", .str "down", .str "upp"]) rfl e3 ek) rfl)) (bT rfl))))⟩
  ·have ew:vp (cT (c2 (dEq false) aw fE)) (cT (c2 (dEq false) af ir)) (ρ es1 (.im (.int r)) .un .un .un)=some (false,ρ es1 (.im (.int r)) .un .un .un):=by
    have e4:cT (c2 (dEq false) aw fE) (ρ es1 (.im (.int r)) .un .un .un)=some (decide (r=4),ρ es1 (.im (.int r)) .un .un .un):=tN (se (x:=.int r) (y:=.int 4) rfl rfl (vQ false r 4));by_cases h:r=4
    ·rw[ba h]at e4;refine(vV e4).trans (tN (se (x:=.str f) (y:=.str "way") rfl rfl ?_));cases cm with
     |go z=>exact au ⟨rfl,h⟩ hw
     |_=>rfl
    ·rw[aO h]at e4;exact xY e4
   rw[rX ((sf ew).trans (show _=some (Out.nx (ρ es1 (.im (.int r)) .un .un .un)) from rfl))];exact rest h4 (iH λh=>hw ⟨iH λq=>h (.inl q),iH λq=>h (.inr q)⟩) _ rfl
theorem Gq(g:Good T M dk)(cm:Cm (nmK T Kd.pl) c f)(hr:∃r,(y,r)∈A/\r∈T.map Th.n):∀{n:Nat},n<=3->∀{es:List L4.D},IL es->∃d es',IL es'/\Ak T A y c c n d/\sV (n+1) es [sS T M dk y,.str f,.int ((n+1:Nat):Int)]=some (d,es')
 |0,h,es,hi=>KE g cm hr h (λm e=>by cases e) hi
 |n+1,h,es,hi=>KE g cm hr h (λm e es' h'=>by cases e;exact Gq g cm hr (by omega) h') hi
end
section
variable{A:List (Str×Str)}{V:List (Str×Int)}{S:List (Ky×L4.D)}{y r:Str}{T:List Th}{M:List Mk}{dk:aF}{mo c c' d:L4.D}{n:Nat}{f:Str}
theorem sk{c:FT}{f t:FS}{ρ:bg}(h:c ρ=some (false,ρ)):r6 (sIf c f sF) t ρ=t ρ:=rX ((sf h).trans rfl)
theorem Rl(h:e ρ=some (.bl b,ρ1)):Dd e ρ=some (.bl !b,ρ1):=by unfold Dd;rw[h]
theorem Rm(h:e ρ=some (.bl b,ρ1))(h':e' ρ1=some (.bl b',ρ1)):uf e e' ρ=some (.bl (b&&b'),ρ1):=by cases b with|true=>exact(tM h).trans h'|false=>exact wW h
theorem ev3(h1:f1 ρ=some (.nx ρ1))(h2:f2 ρ1=some (.nx ρ2))(h3:f3 ρ2=some (.nx ρ3)):r6 f1 (r6 f2 (r6 f3 g)) ρ=g ρ3:=(rX h1).trans ((rX h2).trans (rX h3))
def Tst(n:Nat)(T:List Th)(M:List Mk)(dk:aF)(y:Str)(mo:L4.D)(A:List (Str×Str))(V:List (Str×Int))(S:List (Ky×L4.D))(c c' d:L4.D):Prop:=∃k ns ds hh b,tP (n+1) [d]=some (.obj k ns ds)/\tK n k=some hh/\ns.contains "holds" = false/\hh [.obj k ns ds,wO T M dk y mo,sD S,c]=some (.bl b)/\uC (n+1) [sS T M dk y,atD A,dcI V,c',d]=some (.bl b)
theorem aaH(s:Sit T A V S y r):Tst n T M dk y mo A V S c c' (.tup [.str "lit"]):=by
 refine⟨15,[],[],Em,BZ dk s,by kernel_rfl,by cases n<;>rfl,rfl,?_,?_⟩
 ·exact sv (ρ:=[.im (.obj 15 [] []),.im (wO T M dk y mo),.im (sD S),.im c]) rfl (sH (rZ (ds:=[wO T M dk y mo,sD S]) rfl (Q6 s)))
 ·refine sv (ρ:=[.im (sS T M dk y),.im (atD A),.im (dcI V),.im c',.im (.tup [.str "lit"]),.im (.str "lit"),.un]) rfl ?_;unfold ud;exact(ev3 rfl ((sf rfl).trans rfl) ((sf rfl).trans rfl)).trans (sJ ((sP rfl).trans (sH (rZ (ds:=[sS T M dk y,atD A,dcI V]) rfl (MV s)))))
theorem YN(x z:Str)(h:c=.tup [.str "go", .str z,.non])(h':c'=c):Tst n T M dk y mo A V S c c' (.tup [.str "word", .str x]):=by
 subst h';subst h;let c0:L4.D:=.tup [.str "go", .str z,.non];refine⟨8,["word"],[.str x],CM,decide (z=x),by kernel_rfl,by cases n<;>rfl,rfl,?_,?_⟩
 ·refine sv (ρ:=[.im (.obj 8 ["word"] [.str x]),.im (wO T M dk y mo),.im (sD S),.im c0]) rfl (sH ((tM (rZ (ds:=[wO T M dk y mo,c0]) rfl (by kernel_rfl))).trans (se (x:=.str z) (y:=.str x) rfl rfl (vP false z x))))
 ·refine sv (ρ:=[.im (sS T M dk y),.im (atD A),.im (dcI V),.im c0,.im (.tup [.str "word", .str x]),.im (.str "word"),.un]) rfl ?_;unfold ud;exact(ev3 rfl ((sf rfl).trans rfl) ((sf rfl).trans rfl)).trans ((rX ((sf rfl).trans rfl)).trans (sJ ((sP rfl).trans (sH ((tM rfl).trans (se (x:=.str z) (y:=.str x) rfl rfl (vP false z x)))))))
end
section
variable{A:List (Str×Str)}{V:List (Str×Int)}{S:List (Ky×L4.D)}{y r:Str}{T:List Th}{M:List Mk}{dk:aF}{mo c c' d:L4.D}{n:Nat}{f t z:Str}
theorem aaI(s:Sit T A V S y r)(hc:∃k a b,c'=.tup [k,a,b])(tz:Tn A y c c' t z):Tst n T M dk y mo A V S c c' (.tup [.str "has", .str t]):=by
 let o:L4.D:=.obj 4 ["term"] [.str t];let W:=wO T M dk y mo;let sp:=sS T M dk y;have dy:dIn false (.str y) (.lst ((lf s.a z).map D.str))=some (.bl (decide (y∈lf s.a z))):=uK false y _;refine⟨4,["term"],[.str t],Ek,decide (y∈lf s.a z),by kernel_rfl,by cases n<;>rfl,rfl,?_,?_⟩
 ·refine sv (ρ:=[.im o,.im W,.im (sD S),.im c]) rfl (sH (rZ (ds:=[W,sD S,.str z]) (rW rfl (rW rfl (rW (rZ (ds:=[W,sD S,c,.str t]) rfl (Bj s.a s.o tz.1)) rfl))) ?_));exact sv (ρ:=[.im W,.im (sD S),.im (.str z)]) rfl (sH (se (x:=.str y) rfl (tJ (rZ (ds:=[W,sD S,.str z]) rfl (MR s.a s.o W (Q2 s.a z) (Uk s.a z)))) dy))
 ·refine sv (ρ:=[.im sp,.im (atD A),.im (dcI V),.im c',.im (.tup [.str "has", .str t]),.im (.str "has"),.im (.str z)]) rfl ?_;unfold ud;refine(ev3 rfl ((sf rfl).trans rfl) ((sf rfl).trans rfl)).trans ((rX ((sf rfl).trans rfl)).trans ((rX ((sf rfl).trans rfl)).trans ((rX ((sE (rZ (ds:=[sp,atD A,c',.str t]) rfl (xX s.a tz.2 hc))).trans rfl)).trans ((rX ((sf rfl).trans rfl)).trans (sJ ((sP rfl).trans (sH (se (x:=.str y) rfl (tJ (rZ (ds:=[atD A,.str z]) rfl (KA s.a (Q2 s.a z) (Uk s.a z)))) dy))))))))
theorem YO(s:Sit T A V S y r)(hc:∃k a b,c'=.tup [k,a,b])(tz:Tn A y c c' t z)(hz:z∈T.map Th.n):Tst n T M dk y mo A V S c c' (.tup [.str "seen", .str t]):=by
 let o:L4.D:=.obj 5 ["term"] [.str t];let W:=wO T M dk y mo;let sp:=sS T M dk y;obtain⟨u,hu,rfl⟩:=aK.mp hz;have dy:dIn false (.str u.n) (.lst ((xI (BD dk s)).map D.str))=some (.bl (u.k.pl&&zm dk s u.n)):=by
  rw[uK];congr 2;rw[ao bA,cK,bG,show (u.n∈xI (BD dk s))=(u.n∈BD dk s) from propext (iN _ leS).mem_iff];unfold BD;rw[aK];constructor
  ·rintro⟨x,hx,e⟩;rw[bO]at hx;rw[<-LK s.nd hx.1 hu e];exact hx.2
  ·exact λh=>⟨u,bO.mpr ⟨hu,h⟩,rfl⟩
 refine⟨5,["term"],[.str t],CJ,u.k.pl&&zm dk s u.n,by kernel_rfl,by cases n<;>rfl,rfl,?_,?_⟩
 ·exact sv (ρ:=[.im o,.im W,.im (sD S),.im c]) rfl (sH (rZ (ds:=[W,sD S,.str u.n]) (rW rfl (rW rfl (rW (rZ (ds:=[W,sD S,c,.str t]) rfl (Bj s.a s.o tz.1)) rfl))) (Q7 s hu)))
 ·refine sv (ρ:=[.im sp,.im (atD A),.im (dcI V),.im c',.im (.tup [.str "seen", .str t]),.im (.str "seen"),.im (.str u.n)]) rfl ?_;unfold ud;refine(ev3 rfl ((sf rfl).trans rfl) ((sf rfl).trans rfl)).trans ((rX ((sf rfl).trans rfl)).trans ((rX ((sf rfl).trans rfl)).trans ((rX ((sE (rZ (ds:=[sp,atD A,c',.str t]) rfl (xX s.a tz.2 hc))).trans rfl)).trans ((rX ((sf rfl).trans rfl)).trans ((rX ((sf rfl).trans rfl)).trans (sJ ((sP rfl).trans (sH (se (x:=.str u.n) rfl (tJ (rZ (ds:=[sp,atD A,dcI V]) rfl (Rb s))) dy)))))))))
theorem at_t(s:Sit T A V S y r)(hc:∃k a b,c'=.tup [k,a,b])(tz:Tn A y c c' t z)(tw:Tn A y c c' p w):Tst n T M dk y mo A V S c c' (.tup [.str "at", .str t,.str p]):=by
 let o:L4.D:=.obj 3 ["term", "place"] [.str t,.str p];let W:=wO T M dk y mo;let sp:=sS T M dk y;have hm:∀{ab:L4.D} {b:Bool},vS [sD S,.str z]=some ab->uf (c2 y7 aE bt) (c2 (dEq false) aE (r9 wI pQ)) [.im o,.im W,.im (sD S),.im c,.im (.str z),.im ab]=some (.bl b,[.im o,.im W,.im (sD S),.im c,.im (.str z),.im ab])->zP [o,W,sD S,c]=some (.bl b):=λ{ab b} h1 h2=>by refine sv (ρ:=[.im o,.im W,.im (sD S),.im c,.im (.str z),.im ab]) rfl ?_;unfold BX;exact(rX ((sE (rZ (ds:=[W,sD S,c,.str t]) rfl (Bj s.a s.o tz.1))).trans rfl)).trans ((rX (ρ':=[.im o,.im W,.im (sD S),.im c,.im (.str z),.im ab]) ((sE (rZ (ds:=[sD S,.str z]) rfl h1)).trans rfl)).trans (sH h2))
 have hs:∀{b:Bool},uf (c2 (BK false) bf af) (c2 (dEq false) (c2 tq af bf) (r9 wU p8)) [.im sp,.im (atD A),.im (dcI V),.im c',.im (.tup [.str "at", .str t,.str p]),.im (.str "at"),.im (.str z)]=some (.bl b,[.im sp,.im (atD A),.im (dcI V),.im c',.im (.tup [.str "at", .str t,.str p]),.im (.str "at"),.im (.str z)])->uC (n+1) [sp,atD A,dcI V,c',.tup [.str "at", .str t,.str p]]=some (.bl b):=λ{b} h=>by refine sv (ρ:=[.im sp,.im (atD A),.im (dcI V),.im c',.im (.tup [.str "at", .str t,.str p]),.im (.str "at"),.im (.str z)]) rfl ?_;unfold ud;exact(ev3 rfl ((sf rfl).trans rfl) ((sf rfl).trans rfl)).trans ((rX ((sf rfl).trans rfl)).trans ((rX ((sf rfl).trans rfl)).trans ((rX ((sE (rZ (ds:=[sp,atD A,c',.str t]) rfl (xX s.a tz.2 hc))).trans rfl)).trans (sJ ((sP rfl).trans (sH h))))))
 by_cases hz:z∈A.map aG
 ·obtain⟨q,hq,rfl⟩:=aK.mp hz;refine⟨3,["term", "place"],[.str t,.str p],zP,decide (q.2=w),by kernel_rfl,by cases n<;>rfl,rfl,hm (Bh s.a s.o (x:=q.1) (z:=q.2) hq) ?_,hs ?_⟩
  ·exact(tM rfl).trans (se (x:=.str q.2) (y:=.str w) rfl (rZ (ds:=[W,sD S,c,.str p]) rfl (Bj s.a s.o tw.1)) (vP false _ _))
  ·have hk:=Bi s.a (x:=q.1) (z:=q.2) hq;refine(tM (ρ1:=[.im sp,.im (atD A),.im (dcI V),.im c',.im (.tup [.str "at", .str t,.str p]),.im (.str "at"),.im (.str q.1)]) (se (x:=.str q.1) (y:=atD A) rfl rfl ?_)).trans (se (x:=.str q.2) (y:=.str w) (se (x:=atD A) (y:=.str q.1) rfl rfl hk) (rZ (ds:=[sp,atD A,c',.str p]) rfl (xX s.a tw.2 hc)) (vP false _ _));show some (D.bl (uG (A.map λq=>kS q.1) (A.map λq=>D.str q.2) (kS q.1)).isSome)=_;rw[hk];rfl
 ·refine⟨3,["term", "place"],[.str t,.str p],zP,false,by kernel_rfl,by cases n<;>rfl,rfl,hm (EN s.o hz) (wW rfl),hs (wW (se (x:=.str z) (y:=atD A) rfl rfl ?_))⟩;show some (D.bl (uG (A.map λq=>kS q.1) (A.map λq=>D.str q.2) (kS z)).isSome)=_;rw[MS hz];rfl
end
section
variable{A:List (Str×Str)}{V:List (Str×Int)}{S:List (Ky×L4.D)}{y r:Str}{T:List Th}{M:List Mk}{dk:aF}{mo c c' d:L4.D}{n:Nat}{f t z:Str}
theorem mark_none(o:DG A V S)(h:x∉V.map aG):wg [sD S,.str x]=some .non:=by
 refine sv (ρ:=[.im (sD S),.im (.str x)]) rfl (sH (rZ (ds:=[sD S,.tup [.str "mark", .str x]]) rfl ?_));rcases CT S ("mark", x)with ⟨d,h1,h2⟩|⟨h1,h2⟩
 ·obtain⟨z',rfl,h3⟩:=o.mo x d h1;exact au (aK.mpr ⟨_,h3,rfl⟩) h
 ·exact h2
theorem Ro(s:Sit T A V S y r)(hc:∃k a b,c'=.tup [k,a,b])(tz:Tn A y c c' t z)(v:Int):Tst n T M dk y mo A V S c c' (.tup [.str "marked", .str t,.int v]):=by
 let o:L4.D:=.obj 6 ["term", "value"] [.str t,.int v];let W:=wO T M dk y mo;let sp:=sS T M dk y;let q4:L4.D:=.tup [.str "marked", .str t,.int v];have hm:∀{ab:L4.D} {b:Bool},wg [sD S,.str z]=some ab->uf (c2 y7 aw bt) (c2 (dEq false) aw (c1 (sU Dw "value") aa)) [.im o,.im W,.im (sD S),.im c,.im ab]=some (.bl b,[.im o,.im W,.im (sD S),.im c,.im ab])->wJ [o,W,sD S,c]=some (.bl b):=λ{ab b} h1 h2=>by refine sv (ρ:=[.im o,.im W,.im (sD S),.im c,.im ab]) rfl ?_;unfold yw;exact(rX (ρ':=[.im o,.im W,.im (sD S),.im c,.im ab]) ((sE (rZ (ds:=[sD S,.str z]) (rW rfl (rW (rZ (ds:=[W,sD S,c,.str t]) rfl (Bj s.a s.o tz.1)) rfl)) h1)).trans rfl)).trans (sH h2)
 have hs:∀{b:Bool},uf (c2 (BK false) bf ar) (c2 (dEq false) (c2 tq ar bf) (c2 dIx aw bM)) [.im sp,.im (atD A),.im (dcI V),.im c',.im q4,.im (.str "marked"),.im (.str z)]=some (.bl b,[.im sp,.im (atD A),.im (dcI V),.im c',.im q4,.im (.str "marked"),.im (.str z)])->uC (n+1) [sp,atD A,dcI V,c',q4]=some (.bl b):=λ{b} h=>by refine sv (ρ:=[.im sp,.im (atD A),.im (dcI V),.im c',.im q4,.im (.str "marked"),.im (.str z)]) rfl ?_;unfold ud;exact(ev3 rfl ((sf rfl).trans rfl) ((sf rfl).trans rfl)).trans ((rX ((sf rfl).trans rfl)).trans ((rX ((sf rfl).trans rfl)).trans ((rX ((sE (rZ (ds:=[sp,atD A,c',.str t]) rfl (xX s.a tz.2 hc))).trans rfl)).trans ((rX ((sf rfl).trans rfl)).trans ((rX ((sf rfl).trans rfl)).trans ((rX ((sf rfl).trans rfl)).trans (sJ ((sP rfl).trans (sH h)))))))))
 by_cases hz:z∈V.map aG
 ·obtain⟨q,hq,rfl⟩:=aK.mp hz;refine⟨6,["term", "value"],[.str t,.int v],wJ,decide (q.2=v),by kernel_rfl,by cases n<;>rfl,rfl,hm (Jg s.nv s.o (x:=q.1) (z:=q.2) hq) ?_,hs ?_⟩
  ·exact(tM rfl).trans (se (x:=.int q.2) (y:=.int v) rfl rfl (vQ false _ _))
  ·have hk:=LO s.nv (x:=q.1) (z:=q.2) hq;refine(tM (ρ1:=[.im sp,.im (atD A),.im (dcI V),.im c',.im q4,.im (.str "marked"),.im (.str q.1)]) (se (x:=.str q.1) (y:=dcI V) rfl rfl ?_)).trans (se (x:=.int q.2) (y:=.int v) (se (x:=dcI V) (y:=.str q.1) rfl rfl hk) rfl (vQ false _ _));show some (D.bl (uG (V.map λq=>kS q.1) (V.map λq=>D.int q.2) (kS q.1)).isSome)=_;rw[hk];rfl
 ·refine⟨6,["term", "value"],[.str t,.int v],wJ,false,by kernel_rfl,by cases n<;>rfl,rfl,hm (mark_none s.o hz) (wW rfl),hs (wW (se (x:=.str z) (y:=dcI V) rfl rfl ?_))⟩;show some (D.bl (uG (V.map λq=>kS q.1) (V.map λq=>D.int q.2) (kS z)).isSome)=_;rw[Ba (λw=>hz ?_)]
  ·rfl
  ·obtain⟨q,hq,e⟩:=aK.mp w;exact aK.mpr ⟨q,hq,F9 e⟩
theorem M5:∀{T:List Th},(T.map Th.n).Nodup->u∈T->T.filter (λt=>decide (t.n=u.n))=[u]
 |x::T,nd,h=>by
  rw[az,cj]at nd;rcases aN.mp h with rfl|h
  ·rw[List.filter_cons_of_pos (by simp),jM.mpr λa ha e=>nd.1 (aK.mpr ⟨a,ha,bu e⟩)]
  ·rw[List.filter_cons_of_neg (by intro e;exact nd.1 (aK.mpr ⟨u,h,(bu e).symm⟩)),M5 nd.2 h]
theorem eqL1(a b:Str):dEq false (.lst [.str a]) (.lst [.str b])=some (.bl (decide (a=b))):=by
 have e0:Dl false (.lst [.str a]) (.lst [.str b])=none:=rfl;have e1:Dm false (.lst [.str a]) (.lst [.str b])=some (.bl (L3.eqD (.lst [.str a]) (.lst [.str b]))):=rfl;unfold dEq;rw[e0];simp only;rw[e1];congr 2;by_cases h:a=b
 ·subst h;rw[Jv,ba rfl]
 ·rw[aO h];show (L3.eqD (.str a) (.str b)&&true)=false;rw[Bool.and_true];exact aO h
theorem YQ(s:Sit T A V S y r)(hc:∃k a b,c'=.tup [k,a,b])(tz:Tn A y c c' t z)(hz:z∈T.map Th.n)(k:Str):Tst n T M dk y mo A V S c c' (.tup [.str "kind", .str t,.str k]):=by
 let o:L4.D:=.obj 7 ["term", "kind"] [.str t,.str k];let W:=wO T M dk y mo;let sp:=sS T M dk y;let q4:L4.D:=.tup [.str "kind", .str t,.str k];obtain⟨u,hu,rfl⟩:=aK.mp hz;refine⟨7,["term", "kind"],[.str t,.str k],CK,decide (u.k.s=k),by kernel_rfl,by cases n<;>rfl,rfl,?_,?_⟩
 ·refine sv (ρ:=[.im o,.im W,.im (sD S),.im c,.im (thD u)]) rfl ?_;unfold zQ;exact(rX (ρ':=[.im o,.im W,.im (sD S),.im c,.im (thD u)]) ((sE (uh (m:="thing_of") (ns:=wNs) (xs:=wDs T M dk y mo) (ys:=[.str u.n]) rfl rfl rfl (rW (rZ (ds:=[W,sD S,c,.str t]) rfl (Bj s.a s.o tz.1)) rfl) (Gp s.nd hu))).trans rfl)).trans (sH ((tM rfl).trans (se (x:=.str u.k.s) (y:=.str k) rfl rfl (vP false _ _))))
 ·let ρ:bg:=[.im sp,.im (atD A),.im (dcI V),.im c',.im q4,.im (.str "kind"),.im (.str u.n)];refine sv (ρ:=ρ) rfl ?_;unfold ud;refine(ev3 rfl ((sf rfl).trans rfl) ((sf rfl).trans rfl)).trans ((rX ((sf rfl).trans rfl)).trans ((rX ((sf rfl).trans rfl)).trans ((rX ((sE (rZ (ds:=[sp,atD A,c',.str t]) rfl (xX s.a tz.2 hc))).trans rfl)).trans ((rX ((sf rfl).trans rfl)).trans ((rX ((sf rfl).trans rfl)).trans ((rX ((sf rfl).trans rfl)).trans ((rX ((sf rfl).trans rfl)).trans (sH (se (x:=.lst [.str u.k.s]) (y:=.lst [.str k]) (ρ1:=ρ) (tJ ?_) rfl (eqL1 _ _))))))))));have:=wV (k:=3) (cap:=[6]) (g:=gT cZ 3) (ft:=cT (c2 (dEq false) aa av)) (fe:=cV 1) (s:=iL (c2 tq aa dU)) (λt:Th=>sT t.rw) (λt=>D.str t.k.s) (λt=>decide (t.n=u.n)) T (ρ:=ρ) (ρ1:=ρ) rfl (by have:=s.hT;omega) λt _=>⟨[.im (.str t.n),.im (.str t.k.s),.im (oS t.s),.im (.str u.n)],[.im (.str t.n),.im (.str t.k.s),.im (oS t.s),.im (.str u.n)],rfl,tN (se rfl rfl (vP false t.n u.n)),λ_=>⟨_,rfl,rfl⟩,λ_=>rfl⟩
  refine this.trans ?_;rw[M5 s.nd hu];rfl
theorem no_t(h:Tst n T M dk y mo A V S c c' a):Tst (n+1) T M dk y mo A V S c c' (.tup [.str "not", a]):=by
 obtain⟨k,ns,ds,hh,b,h1,h2,h3,h4,h5⟩:=h;let W:=wO T M dk y mo;let sp:=sS T M dk y;let q4:L4.D:=.tup [.str "not", a];refine⟨9,["inner"],[.obj k ns ds],_,!b,?_,rfl,rfl,?_,?_⟩
 ·refine sv (ρ:=[.im q4,.im (.str "not")]) rfl ?_;unfold vK;refine(rX rfl).trans ?_
  iterate 6 refine(sk rfl).trans ?_
  exact sJ ((sP rfl).trans (sH (IK (ds:=[.obj k ns ds]) (rW (rZ (ds:=[a]) rfl h1) rfl) rfl)))
 ·exact sv (ρ:=[.im (.obj 9 ["inner"] [.obj k ns ds]),.im W,.im (sD S),.im c]) rfl (sH (Rl (uh (xs:=ds) (ys:=[W,sD S,c]) rfl h2 h3 rfl h4)))
 ·refine sv (ρ:=[.im sp,.im (atD A),.im (dcI V),.im c',.im q4,.im (.str "not"),.un]) rfl ?_;unfold ud;exact(rX rfl).trans (sJ ((sP rfl).trans (sH (Rl (rZ (ds:=[sp,atD A,dcI V,c',a]) rfl h5)))))
theorem YR(h:Tst n T M dk y mo A V S c c' a)(h':Tst n T M dk y mo A V S c c' d):Tst (n+1) T M dk y mo A V S c c' (.tup [.str "both", a,d]):=by
 obtain⟨k,ns,ds,hh,b,h1,h2,h3,h4,h5⟩:=h;obtain⟨k',ns',ds',hh',b',g1,g2,g3,g4,g5⟩:=h';let W:=wO T M dk y mo;let sp:=sS T M dk y;let q4:L4.D:=.tup [.str "both", a,d];let o:L4.D:=.obj 10 ["one", "other"] [.obj k ns ds,.obj k' ns' ds'];refine⟨10,["one", "other"],[.obj k ns ds,.obj k' ns' ds'],_,b&&b',?_,rfl,rfl,?_,?_⟩
 ·refine sv (ρ:=[.im q4,.im (.str "both")]) rfl ?_;unfold vK;refine(rX rfl).trans ?_
  iterate 7 refine(sk rfl).trans ?_
  exact sJ ((sP rfl).trans (sH (IK (ds:=[.obj k ns ds,.obj k' ns' ds']) (rW (rZ (ds:=[a]) rfl h1) (rW (rZ (ds:=[d]) rfl g1) rfl)) rfl)))
 ·refine sv (ρ:=[.im o,.im W,.im (sD S),.im c]) rfl (sH (Rm (uh (xs:=ds) (ys:=[W,sD S,c]) rfl h2 h3 rfl h4) (uh (xs:=ds') (ys:=[W,sD S,c]) rfl g2 g3 rfl g4)))
 ·refine sv (ρ:=[.im sp,.im (atD A),.im (dcI V),.im c',.im q4,.im (.str "both"),.un]) rfl ?_;unfold ud;exact(rX rfl).trans ((sk rfl).trans (sJ ((sP rfl).trans (sH (Rm (rZ (ds:=[sp,atD A,dcI V,c',a]) rfl h5) (rZ (ds:=[sp,atD A,dcI V,c',d]) rfl g5))))))
theorem M6(s:Sit T A V S y r)(hc:∃k a b,c'=.tup [k,a,b]):∀{n:Nat} {d:L4.D},Ak T A y c c' n d->Tst n T M dk y mo A V S c c' d:=λ{n d} ak=>by
 induction ak with
 |«at» tz tw=>exact at_t s hc tz tw
 |has tz=>exact aaI s hc tz
 |seen tz hz=>exact YO s hc tz hz
 |kind k _ tz hz=>exact YQ s hc tz hz k
 |word x z h h'=>exact YN x z h h'
 |marked v tz=>exact Ro s hc tz v
 |lit=>exact aaH s
 |no _ ih=>exact no_t ih
 |both _ _ ih ih'=>exact YR ih ih'
end
section
variable{A:List (Str×Str)}{y:Str}{T:List Th}{M:List Mk}{dk:aF}{c c' d:L4.D}{n:Nat}{t z w:Str}
def rm0(T:List Th):Str:=((T.map Th.n).filter λx=>decide (x∈nmK T λk=>decide (k=.room))).headD ""
def wt(T:List Th)(y t:Str):Str:=if t∈(["it", "other"]:aF)then y else if t="here" then rm0 T else t
def wD(T:List Th)(y:Str):L4.D->L4.D
 |.str t=>.str (wt T y t)
 |d=>d
theorem UT(g:Good T M dk):∃l,((T.map Th.n).filter λx=>decide (x∈nmK T λk=>decide (k=.room)))=rm0 T::l:=by
 have:((T.map Th.n).filter λx=>decide (x∈nmK T λk=>decide (k=.room)))≠[]:=λe=>by obtain⟨t,ht⟩:=l7 (by have:=g.r1;omega:0<(T.filter λt=>decide (t.k=.room)).length);have h:=jM.mp e t.n (aK.mpr ⟨t,(bO.mp ht).1,rfl⟩);exact h (ba (aK.mpr ⟨t,ht,rfl⟩))
 unfold rm0;obtain⟨a,l,e⟩:=gu this;rw[e];exact⟨l,rfl⟩
theorem YS(g:Good T M dk):rm0 T∈T.map Th.n:=by obtain⟨l,e⟩:=UT g;exact(bO.mp (e▸aY:rm0 T∈(T.map Th.n).filter λx=>decide (x∈nmK T λk=>decide (k=.room)))).1
abbrev wRr(T:List Th)(M:List Mk)(dk:aF)(y:Str)(q:L4.D)(w:Str)(ls:List L4.D)(s:Sl):bg:=[.im (sS T M dk y),.im q,.im (.str w),.im (.lst ((T.map Th.n).map D.str)),.ls ls,s]
def wB:FS:=(r6 (sIf (cT (c2 (dIn false) aE (cL (sN eS)))) (sO 5 (c2 tq aa cx)) (sIf (cT (c2 (dEq false) aE fG)) (sO 5 (c2 dIx (cL (sR 1 [0] (iL av) (gN 0) (cT (c2 (dIn false) aa (cL (tp tR lF)))) aa)) aW)) sF))
 (sY (vX 4 aE)))
theorem aaJ(k:Kd):dIn false (.str k.s) (.lst [.str "room"])=some (.bl (decide (k=.room))):=by cases k<;>kernel_rfl
theorem Ut(g:Good T M dk){ls:List L4.D}(hl:ls.length<900)(hd:(∃v,d=.int v)\/∃t,d=.str t):wB (wRr T M dk y q w ls (.im d))=some (.nx (wRr T M dk y q w (ls++[wD T y d]) (.im (wD T y d)))):=by
 have fin:∀{x:L4.D} {f:FS},f (wRr T M dk y q w ls (.im d))=some (.nx (wRr T M dk y q w ls (.im x)))->r6 f (sY (vX 4 aE)) (wRr T M dk y q w ls (.im d))=some (.nx (wRr T M dk y q w (ls++[x]) (.im x))):=λ{x f} h=>(rX h).trans ((tV (ye (es:=ls) rfl rfl rfl (by omega))).trans rfl);unfold wB;refine fin ?_;rcases hd with ⟨v,rfl⟩|⟨t,rfl⟩
 ·kernel_rfl
 ·have e1:cT (c2 (dIn false) aE (cL (sN eS))) (wRr T M dk y q w ls (.im (.str t)))=some (decide (t∈(["it", "other"]:aF)),wRr T M dk y q w ls (.im (.str t))):=tN (se (x:=.str t) (y:=.lst [.str "it", .str "other"]) rfl rfl (uK false t ["it", "other"]));have e2:cT (c2 (dEq false) aE fG) (wRr T M dk y q w ls (.im (.str t)))=some (decide (t="here"),wRr T M dk y q w ls (.im (.str t))):=tN (se (x:=.str t) (y:=.str "here") rfl rfl (vP false t "here"));show _=some (Out.nx (wRr T M dk y q w ls (.im (.str (wt T y t)))));unfold wt;by_cases h1:t∈(["it", "other"]:aF)
  ·rw[ba h1]at e1;rw[aj h1];exact(sP e1).trans rfl
  ·rw[aO h1]at e1;rw[ao h1];refine(sf e1).trans ?_;by_cases h2:t="here"
   ·rw[ba h2]at e2;rw[aj h2];obtain⟨l,e⟩:=UT g;have hT:=g.len;have ec:=wV (k:=1) (cap:=[0]) (s:=iL av) (g:=gN 0) (ft:=cT (c2 (dIn false) aa (cL (tp tR lF))))  (fe:=cV 0) (λx:Str=>D.str x) (λx=>D.str x) (λx=>decide (x∈nmK T λk=>decide (k=.room))) (T.map Th.n) (ρ:=wRr T M dk y q w ls (.im (.str t))) (ρ1:=wRr T M dk y q w ls (.im (.str t))) rfl (by rw[ah];omega) λx _=>⟨[.im (.str x),.im (sS T M dk y)],[.im (.str x),.im (sS T M dk y)],rfl,tN (se (x:=.str x) rfl (tJ (rZ (ds:=[sS T M dk y,.lst [.str "room"]]) rfl (of_ok (by omega) _ aaJ))) (uK false x _)),λ_=>⟨_,rfl,rfl⟩,λ_=>rfl⟩
    rw[e]at ec;exact(sP e2).trans ((sE (se (x:=.lst ((rm0 T::l).map D.str)) (y:=.int 0) (tJ ec) rfl (vc (j:=0) (l:=rm0 T::l) rfl))).trans rfl)
   ·rw[aO h2]at e2;rw[ao h2];exact(sf e2).trans rfl
theorem HU(g:Good T M dk):∀(ds ls:List L4.D) (s:Sl),(∀d∈ds,(∃v,d=.int v)\/∃t,d=.str t)->ls.length+ds.length<900->∃s',forL (gN 5) wB ds (wRr T M dk y q w ls s)=some (.nx (wRr T M dk y q w (ls++ds.map (wD T y)) s'))
 |[],ls,s,_,_=>⟨s,by rw[bL,bz];rfl⟩
 |d::ds,ls,s,h,hl=>by rw[aH]at hl;obtain⟨s',e⟩:=HU g (q:=q) ds (ls++[wD T y d]) (.im (wD T y d)) (λx hx=>h x (bo _ hx)) (by rw[aC,bh];omega);refine⟨s',?_⟩;unfold forL;rw[show gN 5 d (wRr T M dk y q w ls s)=some (wRr T M dk y q w ls (.im d)) from rfl];simp only[Ut g (by omega:ls.length<900) (h d aY)];rw[e,bE];rfl
theorem aaK(h:e ρ=some (.tup ds,ρ1)):iT e ρ=some (ds,ρ1):=by unfold iT;rw[h]
abbrev wq(T:List Th)(M:List Mk)(dk:aF)(y:Str)(q:L4.D)(w:Str):bg:=[.im (sS T M dk y),.im q,.im (.str w),.un,.un,.un]
theorem xZ(g:Good T M dk)(hd:∀d∈ds,(∃v,d=.int v)\/∃t,d=.str t)(hl:ds.length<800)(h1:dEq false (.str w) (.str "not")=some (.bl false))(h2:dEq false (.str w) (.str "both")=some (.bl false))(h3:dEq false (.str w) (.str "word")=some (.bl false))
  (h4:vp (cT (c2 (dEq false) ar ik)) (cT (c2 (dIn false) (c2 dIx af aD) (cL (sN eS)))) (wq T M dk y (.tup (.str w::ds)) w)=some (false,wq T M dk y (.tup (.str w::ds)) w))
  (h5:∀ls s,Qx af (some 1) none (wRr T M dk y (.tup (.str w::ds)) w ls s)=some (.tup ds,wRr T M dk y (.tup (.str w::ds)) w ls s)):uo (n+1) [sS T M dk y,.tup (.str w::ds)]=some (.tup (.str w::ds.map (wD T y))):=by
 let q:L4.D:=.tup (.str w::ds);have hT:=g.len;obtain⟨s',e⟩:=HU (y:=y) (w:=w) g (q:=q) ds [.str w] .un hd (by rw[bh];omega);refine sv (ρ:=[.im (sS T M dk y),.im q,.im (.str w),.im (.lst ((T.map Th.n).map D.str)),.im (.lst (.str w::ds.map (wD T y))),s']) rfl ?_;unfold um;have ne:∀{x:Str},dEq false (.str w) (.str x)=some (.bl false)->cT (c2 (dEq false) ar (cS x)) (wq T M dk y q w)=some (false,wq T M dk y q w):=λh=>tN (se rfl rfl h);refine(rX (ρ':=wq T M dk y q w) ((sE (se (x:=q) (y:=.int 0) rfl rfl (EF (j:=0) (xs:=.str w::ds) rfl))).trans rfl)).trans ((sk (ne h1)).trans ((sk (ne h2)).trans ((sk (zA (ne h3) h4)).trans ?_)));have ec:=Ah (k:=1) (cap:=[]) (s:=iL (c2 tq aa dU)) (g:=gN 0) (fe:=c2 dIx aa aW) (λt:Th=>sT t.rw) (λt=>D.str t.n) T (ρ:=wq T M dk y q w) (ρ1:=wq T M dk y q w) rfl (by omega) λt _=>⟨_,_,rfl,rfl,rfl⟩;have em:T.map (λt=>D.str t.n)=(T.map Th.n).map D.str:=by rw[aZ];rfl
 rw[em]at ec;refine(rX ((sE (tJ ec)).trans rfl)).trans ((rX (ρ':=wRr T M dk y q w [.str w] .un) rfl).trans ((rX ((ug (aaK (h5 _ _))).trans e)).trans rfl))
end
section
variable{A A':List (Str×Str)}{y:Str}{T:List Th}{M:List Mk}{dk:aF}{c c' d:L4.D}{n:Nat}{t z w:Str}
abbrev wait:L4.D:=.tup [.str "wait", .non,.non]
theorem UU(h:t∉(["here", "it", "other"]:aF)):wt T y t=t:=by unfold wt;rw[ao λe=>h (bo _ e),ao (show ¬t="here" from λe=>h (e▸aY))]
theorem Ew(g:Good T M dk)(hy:y∈T.map Th.n)(tm:Tm A y c t z):Nm (wt T y t)/\(z∈T.map Th.n->wt T y t∈T.map Th.n):=by
 have ok:∀{x:Str},x∈T.map Th.n->Nm x/\(z∈T.map Th.n->x∈T.map Th.n):=λh=>⟨g.nm _ (bK _ h),λ_=>h⟩;cases tm with
 |it1 a=>exact ok hy
 |it2 a b=>exact ok hy
 |oth a b=>exact ok hy
 |here c h=>exact ok (YS g)
 |nm c hx=>rw[UU (LP hx)];exact⟨hx,λh=>h⟩
theorem tn(h:Nm x):Tn A' y .non wait x x:=⟨.nm _ h,.nm _ h⟩
theorem Uu(g:Good T M dk)(hy:y∈T.map Th.n)(ak:Ak T A y c c' n d):∃d',uo (n+1) [sS T M dk y,d]=some d'/\∀A',Ak T A' y .non wait n d':=by
 have str1:∀{a:Str},∀d∈[D.str a],(∃v,d=.int v)\/∃t,d=.str t:=λd h=>.inr ⟨_,aR.mp h⟩;have two:∀{a:Str} {b:L4.D},((∃v,b=.int v)\/∃t,b=.str t)->∀d∈[D.str a,b],(∃v,d=.int v)\/∃t,d=.str t:=λhb d h=>by
  rcases aN.mp h with rfl|h
  ·exact .inr ⟨_,rfl⟩
  ·rw[aR.mp h];exact hb
 induction ak with
 |@«at» n t p z w tz tw=>exact⟨_,xZ g (two (.inr ⟨p,rfl⟩)) (by simp) rfl rfl rfl rfl λ_ _=>rfl,λA'=>.at (tn (Ew g hy tz.1).1) (tn (Ew g hy tw.1).1)⟩
 |has tz=>exact⟨_,xZ g str1 (by simp) rfl rfl rfl rfl λ_ _=>rfl,λA'=>.has (tn (Ew g hy tz.1).1)⟩
 |seen tz hz=>exact⟨_,xZ g str1 (by simp) rfl rfl rfl rfl λ_ _=>rfl,λA'=>.seen (tn (Ew g hy tz.1).1) ((Ew g hy tz.1).2 hz)⟩
 |@kind n t z k hk tz hz=>refine⟨_,xZ g (two (.inr ⟨k,rfl⟩)) (by simp) rfl rfl rfl rfl λ_ _=>rfl,λA'=>?_⟩;show Ak T A' y .non wait n (.tup [.str "kind", .str (wt T y t),.str (wt T y k)]);rw[UU (t:=k) (bu hk)];exact .kind k hk (tn (Ew g hy tz.1).1) ((Ew g hy tz.1).2 hz)
 |word x z h h'=>refine⟨_,sv (ρ:=[.im (sS T M dk y),.im (.tup [.str "word", .str x]),.im (.str "word"),.un,.un,.un]) rfl ?_,λA'=>.lit⟩;unfold um;exact(ev3 rfl ((sf rfl).trans rfl) ((sf rfl).trans rfl)).trans (sJ ((sP (A5 rfl)).trans rfl))
 |@marked n t z v tz=>
  let q:L4.D:=.tup [.str "marked", .str t,.int v];have e1:cT (c2 (dIn false) (c2 dIx af aD) (cL (sN eS))) (wq T M dk y q "marked")=some (decide (t∈(["it", "other"]:aF)),wq T M dk y q "marked"):=tN (se (x:=.str t) (y:=.lst [.str "it", .str "other"]) rfl rfl (uK false t ["it", "other"]));by_cases h:t∈(["it", "other"]:aF)
  ·rw[ba h]at e1;refine⟨_,sv (ρ:=wq T M dk y q "marked") rfl ?_,λA'=>.lit⟩;unfold um;exact(ev3 rfl ((sf rfl).trans rfl) ((sf rfl).trans rfl)).trans (sJ ((sP (zA (ρ1:=wq T M dk y q "marked") rfl ((vV (ρ1:=wq T M dk y q "marked") rfl).trans e1))).trans rfl))
  ·rw[aO h]at e1;exact⟨_,xZ g (two (.inl ⟨v,rfl⟩)) (by simp) rfl rfl rfl ((vV (ρ1:=wq T M dk y q "marked") rfl).trans e1) λ_ _=>rfl,λA'=>.marked v (tn (Ew g hy tz.1).1)⟩
 |lit=>exact⟨_,xZ (ds:=[]) g (λd h=>by cases h) (by simp) rfl rfl rfl rfl λ_ _=>rfl,λA'=>.lit⟩
 |@no n a _ ih=>obtain⟨d',h1,h2⟩:=ih;refine⟨_,sv (ρ:=wq T M dk y (.tup [.str "not", a]) "not") rfl ?_,λA'=>.no (h2 A')⟩;unfold um;exact(rX rfl).trans (sJ ((sP rfl).trans (sH (uX (rW rfl (rW (rZ (ds:=[sS T M dk y,a]) rfl h1) rfl)) (bT rfl)))))
 |@both n a b _ _ ih ih'=>obtain⟨d',h1,h2⟩:=ih;obtain⟨d2,g1,g2⟩:=ih';refine⟨_,sv (ρ:=wq T M dk y (.tup [.str "both", a,b]) "both") rfl ?_,λA'=>.both (h2 A') (g2 A')⟩;unfold um;exact(rX rfl).trans ((sk rfl).trans (sJ ((sP rfl).trans (sH (uX (rW rfl (rW (rZ (ds:=[sS T M dk y,a]) rfl h1) (rW (rZ (ds:=[sS T M dk y,b]) rfl g1) rfl))) (bT rfl))))))
end
section
variable{A:List (Str×Str)}{V:List (Str×Int)}{y:Str}{T:List Th}{M:List Mk}{dk:aF}{c c' q:L4.D}{n:Nat}
def LU:L4.D->Bool
 |.tup (.str w::_)=>!decide (w="not")&&!decide (w="both")
 |_=>false
theorem aaL(h:Ak T A y c c' n q):∃w ds,q=.tup (.str w::ds):=by cases h<;>exact⟨_,_,rfl⟩
theorem UV(h:Ak T A y c c' n q)(e:LU q=true)(m:Nat):Ak T A y c c' m q:=by
 cases h with
 |«at» tz tw=>exact .at tz tw
 |has tz=>exact .has tz
 |seen tz hz=>exact .seen tz hz
 |kind k hk tz hz=>exact .kind k hk tz hz
 |word x z h h'=>exact .word x z h h'
 |marked v tz=>exact .marked v tz
 |lit=>exact .lit
 |@no _ a _=>exact au e (show ¬LU (.tup [.str "not", a])=true by rw[show LU (.tup [.str "not", a])=false by kernel_rfl];decide)
 |@both _ a b _ _=>exact au e (show ¬LU (.tup [.str "both", a,b])=true by rw[show LU (.tup [.str "both", a,b])=false by kernel_rfl];decide)
structure Sd(T:List Th)(y:Str)(A:List (Str×Str))(V:List (Str×Int)):Prop where
 a:yY A y
 pn:∀q∈A,q.2∈T.map Th.n
 nv:(V.map aG).Nodup
 lv:V.length<=40
 hv:∀x∈nmK T Kd.mk,∃z,(x,z)∈V
theorem UW(g:Good T M dk)(hy:(T.filter λt=>decide (t.k=.you)).map Th.n=[y])(hi:IL es):∃A V es1 es2,IL es2/\Sd T y A V/\uH es [sS T M dk y]=some (atD A,es1)/\vT es1 [sS T M dk y]=some (dcI V,es2):=by
 obtain⟨A,xs1,i1,a,pn,_,pl⟩:=Om g hy hi;obtain⟨V,xs2,i2,mk,vn,_⟩:=QU (y:=y) g i1;refine⟨A,V,xs1,xs2,i2,⟨a,pn,by rw[vn];exact ndM g,?_,λx hx=>?_⟩,pl,mk⟩
 ·have h1:=aU bY vn;have h2:=MY g;rw[ah]at h1;rw[h1];exact bQ h2 (by decide)
 ·have:x∈V.map aG:=by rw[vn];exact bK _ hx
  obtain⟨q,hq,rfl⟩:=aK.mp this;exact⟨_,hq⟩
theorem KF(b:Bool):vU [.bl b,.bl b]=some (.bl true):=by cases b<;>kernel_rfl
def iB:FS:=(r6 (sO 14 (r9 xS (rV bV (a1 (cV 13)))))
 (r6 (sIf (wc (cT (r9 vU pM))) (sy cv) sF)
 (r6 (sO 15 (r9 (uC 4) pN))
 (sIf (wc (cT (r9 vU pO))) (sy cv) sF))))
abbrev prA(p:List (Str×Str)×List (Str×Int)):L4.D:=.tup [atD p.1,dcI p.2]
theorem KG(hc:∃k a b,c=.tup [k,a,b])(g:Good T M dk)(e1:tP 4 [q]=some o)(e2:tP 4 [q']=some o'):∀(l:List (List (Str×Str)×List (Str×Int))) (s7 s13 s14 s15:Sl),(∀p∈l,Sd T y p.1 p.2/\Ak T p.1 y c c 3 q/\Ak T p.1 y .non wait 3 q')->
  ∃t7 t13 t14 t15,forL (gT jy 2) iB (l.map prA) [.im sc,.im (sS T M dk y),.im (wO T M dk y mo),s3,s4,s5,s6,s7,.im c,.im q,.im q',.im o,.im o',s13,s14,s15]=some (.nx [.im sc,.im (sS T M dk y),.im (wO T M dk y mo),s3,s4,s5,s6,t7,.im c,.im q,.im q',.im o,.im o',t13,t14,t15])
 |[],s7,s13,s14,s15,_=>⟨s7,s13,s14,s15,rfl⟩
 |(A,V)::l,s7,s13,s14,s15,h=>by
  obtain⟨sd,a1,a2⟩:=h _ aY;obtain⟨S,o1,st⟩:=Kz sd.a sd.nv sd.lv;obtain⟨r,hr⟩:=sd.a.yo;have si:Sit T A V S y r:=⟨g.ndT,g.len,g.p7,sd.a,sd.pn,sd.nv,sd.hv,o1,hr⟩;obtain⟨k,ns,ds,hh,b,t1,t2,t3,t4,t5⟩:=M6 (M:=M) (dk:=dk) (mo:=mo) si hc a1;obtain⟨k',ns',ds',hh',b',u1,u2,u3,u4,u5⟩:=M6 (M:=M) (dk:=dk) (mo:=mo) si ⟨_,_,_,rfl⟩ a2;cases e1.symm.trans t1;cases e2.symm.trans u1;let Q:Sl->bg:=λs=>[.im sc,.im (sS T M dk y),.im (wO T M dk y mo),s3,s4,s5,s6,.im (atD A),.im c,.im q,.im q',.im (.obj k ns ds),.im (.obj k' ns' ds'),.im (dcI V),.im (sD S),s];obtain⟨t7,t13,t14,t15,e⟩:=KG (mo:=mo) (sc:=sc) hc g e1 e2 (s3:=s3) (s4:=s4) (s5:=s5) (s6:=s6) l (.im (atD A)) (.im (dcI V)) (.im (sD S)) (.im (.bl b')) λp hp=>h p (bo _ hp);refine⟨t7,t13,t14,t15,?_⟩;rw[az];unfold forL;rw[show gT jy 2 (prA (A,V)) [.im sc,.im (sS T M dk y),.im (wO T M dk y mo),s3,s4,s5,s6,s7,.im c,.im q,.im q',.im (.obj k ns ds),.im (.obj k' ns' ds'),s13,s14,s15]=some [.im sc,.im (sS T M dk y),.im (wO T M dk y mo),s3,s4,s5,s6,.im (atD A),.im c,.im q,.im q',.im (.obj k ns ds),.im (.obj k' ns' ds'),.im (dcI V),s14,s15] from rfl];have ev:iB [.im sc,.im (sS T M dk y),.im (wO T M dk y mo),s3,s4,s5,s6,.im (atD A),.im c,.im q,.im q',.im (.obj k ns ds),.im (.obj k' ns' ds'),.im (dcI V),s14,s15]=some (.nx (Q (.im (.bl b')))):=by unfold iB;refine(rX (ρ':=Q s15) ((sE (rZ (ds:=[atD A,dcI V]) rfl st)).trans rfl)).trans ?_;refine(sk (Cf (tN (rZ (rW (uh (xs:=ds) (ys:=[wO T M dk y mo,sD S,c]) (ρ1:=Q s15) rfl t2 t3 rfl t4) (rW (rZ (ds:=[sS T M dk y,atD A,dcI V,c,q]) (ρ1:=Q s15) rfl t5) rfl)) (KF b))))).trans ?_;refine(rX (ρ':=Q (.im (.bl b'))) ((sE (rZ (ds:=[sS T M dk y,atD A,dcI V,wait,q']) rfl u5)).trans rfl)).trans ?_;exact(sf (Cf (tN (rZ (rW (uh (xs:=ds') (ys:=[wO T M dk y mo,sD S,.non]) (ρ1:=Q (.im (.bl b'))) rfl u2 u3 rfl u4) rfl) (KF b'))))).trans rfl
  simp only[ev];exact e
end
theorem M7(ns:List Int)(k:Nat):∃c,wK [.fzl (ns.map D.int),.int k]=some (.int c):=by
 let ρ:bg:=[.im (.fzl (ns.map D.int)),.im (.int k)];have ev:cT (c2 Bl af (c1 uw aa)) ρ=some (decide ((k:Int)<((ns.map D.int).length:Nat)),ρ):=rfl;rw[ah]at ev;by_cases h:k<ns.length
 ·rw[ba (by omega)]at ev;refine⟨ns[k],sv (ρ:=ρ) rfl (sJ ((sP ev).trans (sH (se (x:=.fzl (ns.map D.int)) (y:=.int k) rfl rfl ?_))))⟩;exact EF (by rw[bB,aP h];rfl)
 ·rw[aO (by omega)]at ev;exact⟨0,sv (ρ:=ρ) rfl ((rX ((sf ev).trans rfl)).trans rfl)⟩
def tB:FS:=(r6 (sO 7 (uc uH 4 cG))
 (sY (vX 5 (tL p5))))
def dC:FT:=vp (cT (c2 (dEq false) (tu rY 4 iz) aD)) (vp (cT (c2 (dEq true) (c2 dIx dS aW) eR)) (cT (c2 (dEq true) (c2 dIx dS aW) dQ)))
def lB:FS:=(r6 (uT 4 (tp wN pZ))
 (r6 (uT 5 (sN sI))
 (r6 (vY (iR1 bM) (gN 6) tB)
 (r6 (sO 8 (uc vH 4 cG))
 (r6 (sO 9 (uc (sV 4) 4 pU))
 (r6 (sO 10 (r9 (uo 4) (rV af gq)))
 (r6 (sIf dC (sO 9 (tL lG)) sF)
 (r6 (sO 11 (r9 (tP 4) gq))
 (r6 (sO 12 (r9 (tP 4) jB))
 (vY (iL (cL (uW (cFz 5) (cL (cSl (cFz 5) none (some 1)))))) (gT jy 2) iB))))))))))
theorem YT(ns:List Int)(hl:ns.length<=63):UO [.fzl (ns.map D.int)]=some (.bl true):=by
 obtain⟨c0,e0⟩:=M7 ns 0;obtain⟨c1,e1⟩:=M7 ns 1;obtain⟨T,M,dk,y,es,g,hy⟩:=Ua c0;have ew:=QS g hy (QW g);have hyT:y∈T.map Th.n:=(ue T λk=>decide (k=.you)).subset (by unfold nmK;rw[hy];exact aR.mpr rfl);let sc:=D.fzl (ns.map D.int);let W:=wM T M dk y;let sp:=sS T M dk y;let R:bg->bg:=λs=>.im sc::.im sp::.im W::s;have loop:∀(l:List Int) (s:bg),s.length=13->∃s',s'.length=13/\forL (gN 3) lB (l.map D.int) (R s)=some (.nx (R s')):=by
  intro l
  induction l with
  |nil=>exact λs h=>⟨s,h,rfl⟩
  |cons c l ih=>
   intro s hs
   match s,hs with
   |[s3,s4,s5,s6,s7,s8,s9,s10,s11,s12,s13,s14,s15],_=>
   obtain⟨xs,ix,dx⟩:=Kp c 130 (by decide);obtain⟨A1,V1,x1,x2,i2,d1,p1,m1⟩:=UW g hy ix;obtain⟨A2,V2,x3,x4,i4,d2,p2,m2⟩:=UW g hy i2;obtain⟨cm,f,x5,i5,hc,ec⟩:=LS (y:=y) g i4;have ra:∀{A V},Sd T y A V->∃r,(y,r)∈A/\r∈T.map Th.n:=λd=>d.a.yo.imp λr h=>⟨h,d.pn _ h⟩;obtain⟨q,x6,i6,k1,em⟩:=Gq (y:=y) g hc (ra d1) (n:=3) (by decide) i5;obtain⟨q',x6',_,k2,em'⟩:=Gq (y:=y) g hc (ra d2) (n:=3) (by decide) i5;cases em.symm.trans em';obtain⟨w,ewi,kw⟩:=Uu g hyT k1;obtain⟨v,x7,i7,_,_,et⟩:=uv i6 4 (by decide);let E:List L4.D->Sl->Sl->Sl->Sl->Sl->Sl->bg:=λxs s7 s8 s9 s10 s11 s12=>R [.im (.int c),.ls xs,.ls ([(A1,V1),(A2,V2)].map prA),.im (.int 1),s7,s8,s9,s10,s11,s12,s13,s14,s15];have dbl:∃q2,(∀A,Ak T A y cm cm 3 q->Ak T A y cm cm 3 q2)/\(sIf dC (sO 9 (tL lG)) sF:FS) (E x6 (.im (atD A2)) (.im cm) (.im q) (.im w) s11 s12)=some (.nx (E x7 (.im (atD A2)) (.im cm) (.im q2) (.im w) s11 s12)):=by
    let ρ:=E x7 (.im (atD A2)) (.im cm) (.im q) (.im w) s11 s12;obtain⟨w0,ds,rfl⟩:=aaL k1;have b1:cT (c2 (dEq false) (tu rY 4 iz) aD) (E x6 (.im (atD A2)) (.im cm) (.im (.tup (.str w0::ds))) (.im w) s11 s12)=some (decide (v=1),ρ):=tN (se (x:=.int v) (y:=.int 1) ((vo (es0:=x6) (es:=x6) (ds:=[.int 4]) rfl rfl rfl et).trans rfl) rfl (vQ false v 1));have b2:∀x:Str,cT (c2 (dEq true) (c2 dIx dS aW) (cS x)) ρ=some (!decide (w0=x),ρ):=λx=>tN (se (x:=.str w0) (y:=.str x) (se (x:=.tup (.str w0::ds)) (y:=.int 0) rfl rfl (EF (j:=0) (xs:=D.str w0::ds) rfl)) rfl (vP true w0 x));have b3:dC (E x6 (.im (atD A2)) (.im cm) (.im (.tup (.str w0::ds))) (.im w) s11 s12)=some (decide (v=1)&&LU (.tup (.str w0::ds)),ρ):=by
     unfold dC;show _=some (decide (v=1)&&(!decide (w0="not")&&!decide (w0="both")),ρ);have n1:=b2 "not";cases hv:decide (v=1)with
     |false=>rw[hv]at b1;exact xY b1
     |true=>
      rw[hv]at b1;refine(vV b1).trans ?_;cases hn:!decide (w0="not")with
      |false=>rw[hn]at n1;exact xY n1
      |true=>rw[hn]at n1;exact(vV n1).trans (b2 "both")
    cases hb:decide (v=1)&&LU (.tup (.str w0::ds))with
    |false=>rw[hb]at b3;exact⟨_,λA h=>h,(sf b3).trans rfl⟩
    |true=>rw[hb]at b3;have hf:=(Bool.and_eq_true_iff.mp hb).2;exact⟨_,λA h=>.both (UV h hf 2) (UV h hf 2),(sP b3).trans rfl⟩
   obtain⟨q2,kq,ed⟩:=dbl;have si:∀{A V},Sd T y A V->∃S r,Sit T A V S y r:=λd=>by obtain⟨S,o1,_⟩:=Kz d.a d.nv d.lv;obtain⟨r,hr⟩:=d.a.yo;exact⟨S,r,g.ndT,g.len,g.p7,d.a,d.pn,d.nv,d.hv,o1,hr⟩
   obtain⟨S,r,st⟩:=si d1;obtain⟨o1,t1⟩:∃o,tP 4 [q2]=some o:=by obtain⟨_,_,_,_,_,t,_⟩:=M6 (M:=M) (dk:=dk) (mo:=dcI (moL T M)) st (Rj hc) (kq _ k1);exact⟨_,t⟩
   obtain⟨o2,t2⟩:∃o,tP 4 [w]=some o:=by obtain⟨_,_,_,_,_,t,_⟩:=M6 (M:=M) (dk:=dk) (mo:=dcI (moL T M)) st ⟨_,_,_,rfl⟩ (kw A1);exact⟨_,t⟩
   obtain⟨t7,t13,t14,t15,hin⟩:=KG (T:=T) (M:=M) (dk:=dk) (y:=y) (sc:=sc) (mo:=dcI (moL T M)) (Rj hc) g t1 t2 (s3:=.im (.int c)) (s4:=.ls x7) (s5:=.im (.lst ([(A1,V1),(A2,V2)].map prA))) (s6:=.im (.int 1)) [(A1,V1),(A2,V2),(A1,V1)] (.im (atD A2)) s13 s14 s15 λp hp=>by
    rcases aN.mp hp with rfl|hp
    ·exact⟨d1,kq _ k1,kw _⟩
    ·rcases aN.mp hp with rfl|hp
     ·exact⟨d2,kq _ k2,kw _⟩
     ·rw[aR.mp hp];exact⟨d1,kq _ k1,kw _⟩
   obtain⟨s2,hs2,k'⟩:=ih [.im (.int c),.ls x7,.im (.lst ([(A1,V1),(A2,V2)].map prA)),.im (.int 1),t7,.im cm,.im q2,.im w,.im o1,.im o2,t13,t14,t15] rfl;refine⟨s2,hs2,?_⟩;rw[az];unfold forL;rw[show gN 3 (.int c) (R [s3,s4,s5,s6,s7,s8,s9,s10,s11,s12,s13,s14,s15])=some (R [.im (.int c),s4,s5,s6,s7,s8,s9,s10,s11,s12,s13,s14,s15]) from rfl];have turn:∀{A V} {xa xb xc:List L4.D} {ls:List L4.D} {s6 s7:Sl},ls.length<900->uH xa [sp]=some (atD A,xb)->vT xb [sp]=some (dcI V,xc)->tB (R [.im (.int c),.ls xa,.ls ls,s6,s7,s8,s9,s10,s11,s12,s13,s14,s15])=some (.nx (R [.im (.int c),.ls xc,.ls (ls++[prA (A,V)]),s6,.im (atD A),s8,s9,s10,s11,s12,s13,s14,s15])):=λ{A V xa xb xc ls s6 s7} hl h1 h2=>by unfold tB;refine(rX (ρ':=R [.im (.int c),.ls xb,.ls ls,s6,.im (atD A),s8,s9,s10,s11,s12,s13,s14,s15]) ((sE (yK (ds:=[sp]) rfl rfl h1)).trans rfl)).trans ?_;exact(tV (ye (es:=ls) (es0:=ls) rfl (uX (rW rfl (rW (yK (ds:=[sp]) rfl rfl h2) rfl)) (bT rfl)) rfl (by omega))).trans rfl
   have ev:lB (R [.im (.int c),s4,s5,s6,s7,s8,s9,s10,s11,s12,s13,s14,s15])=some (.nx (R [.im (.int c),.ls x7,.im (.lst ([(A1,V1),(A2,V2)].map prA)),.im (.int 1),t7,.im cm,.im q2,.im w,.im o1,.im o2,t13,t14,t15])):=by
    unfold lB;refine(rX (ρ':=R [.im (.int c),.ls xs,s5,s6,s7,s8,s9,s10,s11,s12,s13,s14,s15]) ((zy (rZ (rW rfl (rW rfl rfl)) dx)).trans rfl)).trans ?_;refine(rX (ρ':=R [.im (.int c),.ls xs,.ls [],s6,s7,s8,s9,s10,s11,s12,s13,s14,s15]) rfl).trans ?_;refine(rX (ρ':=E x4 (.im (atD A2)) s8 s9 s10 s11 s12) ((ug (ds:=[.int 0,.int 1]) rfl).trans ?_)).trans ?_
    ·have u1:=turn (ls:=[]) (s6:=.im (.int 0)) (s7:=s7) (by decide) p1 m1;have u2:=turn (ls:=[prA (A1,V1)]) (s6:=.im (.int 1)) (s7:=.im (atD A1)) (show 1<900 by decide) p2 m2;unfold forL;rw[show gN 6 (.int 0) (R [.im (.int c),.ls xs,.ls [],s6,s7,s8,s9,s10,s11,s12,s13,s14,s15])=some (R [.im (.int c),.ls xs,.ls [],.im (.int 0),s7,s8,s9,s10,s11,s12,s13,s14,s15]) from rfl];simp only[u1];unfold forL;rw[show gN 6 (.int 1) (R [.im (.int c),.ls x2,.ls ([]++[prA (A1,V1)]),.im (.int 0),.im (atD A1),s8,s9,s10,s11,s12,s13,s14,s15])=some (R [.im (.int c),.ls x2,.ls [prA (A1,V1)],.im (.int 1),.im (atD A1),s8,s9,s10,s11,s12,s13,s14,s15]) from rfl];simp only[u2];rfl
    refine(rX (ρ':=E x5 (.im (atD A2)) (.im cm) s9 s10 s11 s12) ((sE (yK (ρ1:=E x4 (.im (atD A2)) s8 s9 s10 s11 s12) rfl rfl ec)).trans rfl)).trans ?_;refine(rX (ρ':=E x6 (.im (atD A2)) (.im cm) (.im q) s10 s11 s12) ((sE (yK (ρ1:=E x5 (.im (atD A2)) (.im cm) s9 s10 s11 s12) (ds:=[sp,.str f,.int 4]) (rW rfl (rW (rZ (ds:=[cm]) rfl (Uq hc)) rfl)) rfl em)).trans rfl)).trans ?_;refine(rX (ρ':=E x6 (.im (atD A2)) (.im cm) (.im q) (.im w) s11 s12) ((sE (rZ (ds:=[sp,q]) rfl ewi)).trans rfl)).trans ?_;refine(rX ed).trans ?_;refine(rX ((sE (rZ (ds:=[q2]) rfl t1)).trans rfl)).trans ?_;refine(rX ((sE (rZ (ds:=[w]) rfl t2)).trans rfl)).trans ?_;exact((ug (ds:=[(A1,V1),(A2,V2),(A1,V1)].map prA) rfl).trans hin)
   simp only[ev];exact k'
 let cs:List Int:=c1::(ns.drop (HT.sIx ns.length 0 (some 2))).take (HT.sIx ns.length ns.length (some 7) - HT.sIx ns.length 0 (some 2));have ec:[D.int c1]++cutD (ns.map D.int) (some 2) (some 7)=cs.map D.int:=by unfold cutD;rw[ah,<- fV,<- fo];rfl
 have hc:(cutD (ns.map D.int) (some 2) (some 7)).length<=63:=by unfold cutD;rw[bw,cg,ah];omega
 let un:bg:=eE 13 .un;obtain⟨s',_,e⟩:=loop cs un rfl;refine sv (ρ:=R s') rfl ?_;refine(rX (ρ':=.im sc::.im sp::.un::un) ((sE (rZ (rW (rZ (rW rfl (rW rfl rfl)) e0) rfl) es)).trans rfl)).trans ?_;refine(rX (ρ':=R un) ((sE (rZ (rW rfl rfl) ew)).trans rfl)).trans ?_;refine(rX ((ug (ds:=cs.map D.int) (ρ1:=R un) ?_).trans e)).trans rfl;exact(A0 (tJ (wZ (xs:=[.int c1]) (ys:=cutD (ns.map D.int) (some 2) (some 7)) (tJ (As (rW (rZ (rW rfl (rW rfl rfl)) e1) rfl) (show 1<=1000 by decide))) rfl (by show 1+_<=1000;omega)))).trans (by rw[ec])
end K22x
namespace K22x
open PySem L2 L3 L4
open PySem.W (nsIn)
structure Fx(K:ay)(C0 C1 C2 C3 C4 C5 C6 C7 C8 C9 C10 C11 C12 C13 C14 C15:Addr):Prop where
 a0:nsIn K aX "Thing" = some (some (.ref C0))
 a1:nsIn K aX "Mark" = some (some (.ref C1))
 a2:nsIn K aX "Verb" = some (some (.ref C2))
 a3:nsIn K aX "At" = some (some (.ref C3))
 a4:nsIn K aX "Has" = some (some (.ref C4))
 a5:nsIn K aX "Seen" = some (some (.ref C5))
 a6:nsIn K aX "Marked" = some (some (.ref C6))
 a7:nsIn K aX "Kind" = some (some (.ref C7))
 a8:nsIn K aX "Word" = some (some (.ref C8))
 a9:nsIn K aX "Not" = some (some (.ref C9))
 a10:nsIn K aX "Both" = some (some (.ref C10))
 a11:nsIn K aX "Move" = some (some (.ref C11))
 a12:nsIn K aX "Put" = some (some (.ref C12))
 a13:nsIn K aX "Rule" = some (some (.ref C13))
 a14:nsIn K aX "World" = some (some (.ref C14))
 a15:nsIn K aX "Lit" = some (some (.ref C15))
 k0:CF K C0 ["kind", "name", "start", "words"]
 k1:CF K C1 ["most", "name", "start"]
 k2:CF K C2 ["form", "joining", "name", "others"]
 k3:CF K C3 ["place", "term"]
 k4:CF K C4 ["term"]
 k5:CF K C5 ["term"]
 k6:CF K C6 ["term", "value"]
 k7:CF K C7 ["kind", "term"]
 k8:CF K C8 ["word"]
 k9:CF K C9 ["inner"]
 k10:CF K C10 ["one", "other"]
 k11:CF K C11 ["place", "term"]
 k12:CF K C12 ["term", "value"]
 k13:CF K C13 ["verb", "deeds", "refuses", "tests", "text"]
 k14:CF K C14 ["copied_rules", "kept_dark", "kept_things", "kept_verbs", "shared_rules", "shared_verbs", "things_by_name", "verbs_by_word", "your_name", "kept_marks", "kept_rules", "kept_ways", "mosts_by_name", "rules_by_verb"]
 k15:CF K C15 []
 i_Mark:EL K [C0,C1,C2,C3,C4,C5,C6,C7,C8,C9,C10,C11,C12,C13,C14,C15] C1 1=true
 i_Thing:EL K [C0,C1,C2,C3,C4,C5,C6,C7,C8,C9,C10,C11,C12,C13,C14,C15] C0 0=true
 n_Lit:cE K (.ref C15) "__init__" = some (some (.builtin "object.__init__"))
 nd:decide ([C0,C1,C2,C3,C4,C5,C6,C7,C8,C9,C10,C11,C12,C13,C14,C15]:List Addr).Nodup=true
 e:((["all", "any", "bool", "int", "isinstance", "len", "list", "range", "set", "sorted", "str", "tuple", "zip"]:aF).all λx=>match nsIn K aX x with|some none=>true|_=>false)=true
 g0:GS K "KINDS" ["room", "plain", "fixed", "box", "lamp", "you"]
 g1:GS K "KINDS_APART" ["room", "you"]
 g2:GS K "KINDS_THAT_HOLD" ["room", "box", "you"]
 g3:GS K "KINDS_WITH_MARK" ["box", "lamp"]
 g4:GC K "MOST_BESIDE" 7
 g5:GC K "MOST_IN_NAME" 8
 g6:GC K "MOST_IN_WORD" 12
 g7:GC K "MOST_MARKS" 4
 g8:GC K "MOST_OF_MARK" 3
 g9:GC K "MOST_ROOMS" 5
 g10:GC K "MOST_RULES" 20
 g11:GC K "MOST_VERBS" 6
 g12:GC K "MOST_WAYS" 10
 g13:GC K "MOST_WORDS" 4
 g14:GS K "NO_NAMES" ["it", "other", "here", "the", "a", "undo", "restart"]
 g15:GS K "NO_WORDS" ["the", "a"]
 g16:GS K "NO_WORDS_OF_ROWS" ["the", "a", "undo", "restart"]
 q17:GD K "is_small_letters" (top 6)
 q18:GD K "is_name" (top 7)
 q19:GD K "is_word" (top 8)
 q20:GD K "is_one_of" (top 10)
 q21:GD K "is_whole" (top 11)
 q22:GD K "is_list_up_to" (top 12)
 q23:GD K "own_list" (top 96)
 q24:GJ K C0 "Thing.__init__" (inClass (top 46) 0) [V.non]
 q25:GM K C1 "__init__" "Mark.__init__" (inClass (top 47) 0)
 q26:GJ K C2 "Verb.__init__" (inClass (top 48) 0) [V.non,(V.str "one"),V.non]
 q27:GM K C3 "__init__" "At.__init__" (inClass (top 28) 0)
 q28:GM K C4 "__init__" "Has.__init__" (inClass (top 29) 0)
 q29:GM K C5 "__init__" "Seen.__init__" (inClass (top 30) 0)
 q30:GM K C6 "__init__" "Marked.__init__" (inClass (top 31) 0)
 q31:GM K C7 "__init__" "Kind.__init__" (inClass (top 32) 0)
 q32:GM K C8 "__init__" "Word.__init__" (inClass (top 33) 0)
 q33:GM K C9 "__init__" "Not.__init__" (inClass (top 35) 0)
 q34:GM K C10 "__init__" "Both.__init__" (inClass (top 36) 0)
 q35:GM K C11 "__init__" "Move.__init__" (inClass (top 87) 0)
 q36:GM K C12 "__init__" "Put.__init__" (inClass (top 88) 0)
 q37:GJ K C13 "Rule.__init__" (inClass (top 95) 0) [(V.bl false)]
 q38:GM K C0 "can_hold" "Thing.can_hold" (inClass (top 46) 1)
 q39:GM K C0 "has_mark" "Thing.has_mark" (inClass (top 46) 2)
 q40:GM K C0 "is_plainly" "Thing.is_plainly" (inClass (top 46) 3)
 q41:GD K "refuse_unless" (top 61)
 q42:GD K "count_of" (top 64)
 q43:GD K "plain_ones" (top 65)
 q44:GD K "is_mark" (top 67)
 q45:GD K "check_things" (top 63)
 q46:GD K "check_marks" (top 66)
 q47:GD K "are_unlike" (top 69)
 q48:GD K "check_names" (top 68)
 q49:GD K "mark_names" (top 70)
 q50:GD K "is_start" (top 72)
 q51:GD K "comes_to_room" (top 73)
 q52:GD K "check_starts" (top 71)
 q53:GD K "are_words" (top 75)
 q54:GD K "has_all" (top 77)
 q55:GD K "is_told_apart" (top 76)
 q56:GD K "check_words_of_things" (top 74)
 q57:GD K "check_dark" (top 78)
 q58:GD K "is_way" (top 80)
 q59:GD K "check_ways" (top 79)
 q60:GD K "check_verbs" (top 81)
 q61:GD K "are_apart" (top 84)
 q62:GD K "check_vocabulary" (top 83)
 q63:GD K "check_parts" (top 62)
 q64:GD K "does" (top 119)
 q65:GD K "refuses" (top 120)
 q66:GD K "hand_rules" (top 121)
 q67:GD K "put_rules" (top 122)
 q68:GD K "lid_rules" (top 123)
 q69:GD K "flame_rules" (top 124)
 q70:GD K "way_tests" (top 126)
 q71:GD K "go_rules" (top 125)
 q72:GD K "wait_rules" (top 127)
 q73:GD K "common_rules" (top 118)
 q74:GD K "common_verbs" (top 117)
 q75:GD K "by_name" (top 131)
 q76:GD K "mosts_by_name" (top 132)
 q77:GD K "verbs_by_word" (top 133)
 q78:GD K "by_verb" (top 134)
 q79:GM K C14 "of_kind" "World.of_kind" (inClass (top 130) 3)
 q80:GM K C14 "all_verbs" "World.all_verbs" (inClass (top 130) 13)
 q81:GM K C14 "__init__" "World.__init__" (inClass (top 130) 0)
 q82:GM K C14 "you" "World.you" (inClass (top 130) 4)
 q83:GM K C14 "thing_of" "World.thing_of" (inClass (top 130) 2)
 q84:GM K C14 "is_dark" "World.is_dark" (inClass (top 130) 5)
 q85:GD K "value_of" (top 14)
 q86:GD K "at_of" (top 15)
 q87:GD K "mark_of" (top 16)
 q88:GD K "holders_of" (top 18)
 q89:GD K "room_of" (top 19)
 q90:GD K "is_shut" (top 21)
 q91:GD K "in_open" (top 20)
 q92:GD K "has" (top 22)
 q93:GD K "burns_in" (top 24)
 q94:GD K "is_lit" (top 23)
 q95:GD K "is_seen" (top 25)
 q96:GM K C14 "verb_of" "World.verb_of" (inClass (top 130) 14)
 q97:GD K "is_of_way" (top 37)
 q98:GD K "things_of" (top 38)
 q99:GD K "meant" (top 39)
 q100:GM K C3 "holds" "At.holds" (inClass (top 28) 1)
 q101:GM K C4 "holds" "Has.holds" (inClass (top 29) 1)
 q102:GM K C5 "holds" "Seen.holds" (inClass (top 30) 1)
 q103:GM K C6 "holds" "Marked.holds" (inClass (top 31) 1)
 q104:GM K C7 "holds" "Kind.holds" (inClass (top 32) 1)
 q105:GM K C8 "holds" "Word.holds" (inClass (top 33) 1)
 q106:GM K C15 "holds" "Lit.holds" (inClass (top 34) 0)
 q107:GM K C9 "holds" "Not.holds" (inClass (top 35) 1)
 q108:GM K C10 "holds" "Both.holds" (inClass (top 36) 1)
 q109:GD K "_law_cell_at" (top 136)
 q110:GD K "_law_draws" (top 137)
 q111:GD K "_law_take" (top 138)
 q112:GD K "_law_names" (top 139)
 q113:GD K "_law_others" (top 140)
 q114:GD K "_law_spec" (top 141)
 q115:GD K "_law_ways" (top 142)
 q116:GD K "_law_world" (top 143)
 q117:GD K "_law_of" (top 144)
 q118:GD K "_law_mosts" (top 145)
 q119:GD K "_law_places" (top 146)
 q120:GD K "_law_marks" (top 147)
 q121:GD K "_law_stand" (top 148)
 q122:GD K "_law_holders" (top 149)
 q123:GD K "_law_in_open" (top 150)
 q124:GD K "_law_lit" (top 151)
 q125:GD K "_law_seen" (top 152)
 q126:GD K "_law_command" (top 153)
 q127:GD K "_law_form" (top 154)
 q128:GD K "_law_term" (top 155)
 q129:GD K "_law_place" (top 156)
 q130:GD K "_law_marked" (top 157)
 q131:GD K "_law_asked" (top 158)
 q132:GD K "_law_test" (top 159)
 q133:GD K "_law_meant" (top 160)
 q134:GD K "_law_so" (top 161)
 q135:GD K "_law_truth" (top 162)
 q136:GD K "_law_wish" (top 163)
 q137:GD K "law" (top 164)
class Yx(B:Bz):Prop where
 y:Yw B.P B.w B.mg B.base B.G
 f:Fx B.G.K (B.G.ca 0) (B.G.ca 1) (B.G.ca 2) (B.G.ca 3) (B.G.ca 4) (B.G.ca 5) (B.G.ca 6) (B.G.ca 7) (B.G.ca 8) (B.G.ca 9) (B.G.ca 10) (B.G.ca 11) (B.G.ca 12) (B.G.ca 13) (B.G.ca 14) (B.G.ca 15)
section
variable{B:Bz}[Y:Yx B]
instance:Yb B:=⟨Y.y⟩
instance:Nb B "all" := ⟨Y.y.n Y.f.e 0 rfl⟩
instance:Nb B "any" := ⟨Y.y.n Y.f.e 1 rfl⟩
instance:Nb B "bool" := ⟨Y.y.n Y.f.e 2 rfl⟩
instance:Nb B "int" := ⟨Y.y.n Y.f.e 3 rfl⟩
instance:Nb B "isinstance" := ⟨Y.y.n Y.f.e 4 rfl⟩
instance:Nb B "len" := ⟨Y.y.n Y.f.e 5 rfl⟩
instance:Nb B "list" := ⟨Y.y.n Y.f.e 6 rfl⟩
instance:Nb B "range" := ⟨Y.y.n Y.f.e 7 rfl⟩
instance:Nb B "set" := ⟨Y.y.n Y.f.e 8 rfl⟩
instance:Nb B "sorted" := ⟨Y.y.n Y.f.e 9 rfl⟩
instance:Nb B "str" := ⟨Y.y.n Y.f.e 10 rfl⟩
instance:Nb B "tuple" := ⟨Y.y.n Y.f.e 11 rfl⟩
instance:Nb B "zip" := ⟨Y.y.n Y.f.e 12 rfl⟩
instance:Co B "KINDS" IU:=⟨Y.y.cs Y.f.g0⟩
instance:Co B "KINDS_APART" Bv:=⟨Y.y.cs Y.f.g1⟩
instance:Co B "KINDS_THAT_HOLD" yF:=⟨Y.y.cs Y.f.g2⟩
instance:Co B "KINDS_WITH_MARK" yG:=⟨Y.y.cs Y.f.g3⟩
instance:Co B "MOST_BESIDE" Bw:=⟨Y.y.ci Y.f.g4⟩
instance:Co B "MOST_IN_NAME" AD:=⟨Y.y.ci Y.f.g5⟩
instance:Co B "MOST_IN_WORD" AE:=⟨Y.y.ci Y.f.g6⟩
instance:Co B "MOST_MARKS" xM:=⟨Y.y.ci Y.f.g7⟩
instance:Co B "MOST_OF_MARK" AF:=⟨Y.y.ci Y.f.g8⟩
instance:Co B "MOST_ROOMS" Cq:=⟨Y.y.ci Y.f.g9⟩
instance:Co B "MOST_RULES" Cs:=⟨Y.y.ci Y.f.g10⟩
instance:Co B "MOST_VERBS" Cr:=⟨Y.y.ci Y.f.g11⟩
instance:Co B "MOST_WAYS" DV:=⟨Y.y.ci Y.f.g12⟩
instance:Co B "MOST_WORDS" zI:=⟨Y.y.ci Y.f.g13⟩
instance:Co B "NO_NAMES" FN:=⟨Y.y.cs Y.f.g14⟩
instance:Co B "NO_WORDS" FP:=⟨Y.y.cs Y.f.g15⟩
instance:Co B "NO_WORDS_OF_ROWS" yh:=⟨Y.y.cs Y.f.g16⟩
instance:Ff B xf "copied_rules" := ⟨xu (Y.f.k14.at 0 rfl)⟩
instance:Ff B Kc "form" := ⟨xu (Y.f.k2.at 0 rfl)⟩
instance:Ff B Hu "inner" := ⟨xu (Y.f.k9.at 0 rfl)⟩
instance:Ff B AB "joining" := ⟨xu (Y.f.k2.at 1 rfl)⟩
instance:Ff B Bu "kept_dark" := ⟨xu (Y.f.k14.at 1 rfl)⟩
instance:Ff B z7 "kept_things" := ⟨xu (Y.f.k14.at 2 rfl)⟩
instance:Ff B AC "kept_verbs" := ⟨xu (Y.f.k14.at 3 rfl)⟩
instance:Ff B tT "kind" := ⟨orQ (xu (Y.f.k0.at 0 rfl)) (Y.f.k7.at 0 rfl)⟩
instance:Ff B yf "most" := ⟨xu (Y.f.k1.at 0 rfl)⟩
instance:Ff B sZ "name" := ⟨orQ (orQ (xu (Y.f.k0.at 1 rfl)) (Y.f.k1.at 1 rfl)) (Y.f.k2.at 2 rfl)⟩
instance:Ff B MF "one" := ⟨xu (Y.f.k10.at 0 rfl)⟩
instance:Ff B Hv "other" := ⟨xu (Y.f.k10.at 1 rfl)⟩
instance:Ff B BR "others" := ⟨xu (Y.f.k2.at 3 rfl)⟩
instance:Ff B Hw "place" := ⟨orQ (xu (Y.f.k3.at 0 rfl)) (Y.f.k11.at 0 rfl)⟩
instance:Ff B xg "shared_rules" := ⟨xu (Y.f.k14.at 4 rfl)⟩
instance:Ff B zb "shared_verbs" := ⟨xu (Y.f.k14.at 5 rfl)⟩
instance:Ff B uA "start" := ⟨orQ (xu (Y.f.k0.at 2 rfl)) (Y.f.k1.at 2 rfl)⟩
instance:Ff B Ke "term" := ⟨orQ (orQ (orQ (orQ (orQ (orQ (xu (Y.f.k3.at 1 rfl)) (Y.f.k4.at 0 rfl)) (Y.f.k5.at 0 rfl)) (Y.f.k6.at 0 rfl)) (Y.f.k7.at 1 rfl)) (Y.f.k11.at 1 rfl)) (Y.f.k12.at 0 rfl)⟩
instance:Ff B yg "things_by_name" := ⟨xu (Y.f.k14.at 6 rfl)⟩
instance:Ff B Dw "value" := ⟨orQ (xu (Y.f.k6.at 1 rfl)) (Y.f.k12.at 1 rfl)⟩
instance:Ff B Kg "verb" := ⟨xu (Y.f.k13.at 0 rfl)⟩
instance:Ff B yE "verbs_by_word" := ⟨xu (Y.f.k14.at 7 rfl)⟩
instance:Ff B Kh "word" := ⟨xu (Y.f.k8.at 0 rfl)⟩
instance:Ff B vd "words" := ⟨xu (Y.f.k0.at 3 rfl)⟩
instance:Ff B xi "your_name" := ⟨xu (Y.f.k14.at 8 rfl)⟩
instance:Af B 0 ["kind", "name", "start", "words"]:=⟨Y.f.k0⟩
instance:Af B 1 ["most", "name", "start"]:=⟨Y.f.k1⟩
instance:Af B 2 ["form", "joining", "name", "others"]:=⟨Y.f.k2⟩
instance:Af B 3 ["place", "term"]:=⟨Y.f.k3⟩
instance:Af B 4 ["term"]:=⟨Y.f.k4⟩
instance:Af B 5 ["term"]:=⟨Y.f.k5⟩
instance:Af B 6 ["term", "value"]:=⟨Y.f.k6⟩
instance:Af B 7 ["kind", "term"]:=⟨Y.f.k7⟩
instance:Af B 8 ["word"]:=⟨Y.f.k8⟩
instance:Af B 9 ["inner"]:=⟨Y.f.k9⟩
instance:Af B 10 ["one", "other"]:=⟨Y.f.k10⟩
instance:Af B 11 ["place", "term"]:=⟨Y.f.k11⟩
instance:Af B 12 ["term", "value"]:=⟨Y.f.k12⟩
instance:Af B 13 ["verb", "deeds", "refuses", "tests", "text"]:=⟨Y.f.k13⟩
instance:Af B 14 ["copied_rules", "kept_dark", "kept_things", "kept_verbs", "shared_rules", "shared_verbs", "things_by_name", "verbs_by_word", "your_name", "kept_marks", "kept_rules", "kept_ways", "mosts_by_name", "rules_by_verb"]:=⟨Y.f.k14⟩
instance:Ic B "Mark" QB:=⟨1,Ht Y.f.i_Mark rfl (TM 16 _) (Oa.at ⟨Y.f.k0.ci,Y.f.k1.ci,Y.f.k2.ci,Y.f.k3.ci,Y.f.k4.ci,Y.f.k5.ci,Y.f.k6.ci,Y.f.k7.ci,Y.f.k8.ci,Y.f.k9.ci,Y.f.k10.ci,Y.f.k11.ci,Y.f.k12.ci,Y.f.k13.ci,Y.f.k14.ci,Y.f.k15.ci,trivial⟩),Y.y.g Y.f.a1⟩
instance:Ic B "Thing" MG:=⟨0,Ht Y.f.i_Thing rfl (TM 16 _) (Oa.at ⟨Y.f.k0.ci,Y.f.k1.ci,Y.f.k2.ci,Y.f.k3.ci,Y.f.k4.ci,Y.f.k5.ci,Y.f.k6.ci,Y.f.k7.ci,Y.f.k8.ci,Y.f.k9.ci,Y.f.k10.ci,Y.f.k11.ci,Y.f.k12.ci,Y.f.k13.ci,Y.f.k14.ci,Y.f.k15.ci,trivial⟩),Y.y.g Y.f.a0⟩
instance:K0f B "Lit" 15:=⟨⟨Y.f.k15.mks,Y.f.n_Lit,Y.f.k15.kp⟩,Y.y.g Y.f.a15⟩
instance:Ij B 16:=⟨injR Y.f.nd⟩
theorem eqL{A:Type}{l:List A}{n:Nat}(h:l.length=n):l.length=n:=h
theorem eqE{e:PySem.Expr}{v:PySem.Env}{r:PySem.Sem PySem.Value}(h:PySem.eval e v=r):PySem.eval e v=r:=h
local macro_rules|`(tactic|trivial)=>do let x:=("aaq aae aad aaf aag Qu aak W3 XM aah W1 XT XJ WL WM XN XQ XF W7 Xy Xa XU WT WU WV WW WQ XR aal XW WR W5 XY X0 XO Yd W4 W2 W0 WK Xh Xi aai X2 WY WZ Yf Yg WX aam aan Xo WN WO Xp WS X8 Ya X9 Yc XZ X1 X3 aaj W8 W9 X4 X5 Xq Xb Xc Yp Xu Xv Xw Xx X6 X7 TJ TH TL Xz XA XB XC Xg XD Xj Xk Xl Xm Xn Yn Xt Xs Xr W6 XH XI TF XX Yu Ys Yv Yt Yr Xf Yo Xd Xe Yh Yi Yj Yk TC Ye XS".splitOn " ").toArray.map fun s=>Lean.mkIdent (.mkSimple s);`(tactic|repeat' first|(with_reducible intro _)|((with_reducible first|apply eqL|apply eqE);rfl)|kernel_rfl|((with_reducible first|apply XG|apply zr_cpM);rotate_left 7;rfl)|(with_reducible first $[|apply $x]*)|exact om)
instance:Df B 1 "is_small_letters" (spF B.G wa):=gF4 rfl Y.f.q17 rfl (by unfold yi;trivial)
instance:Df B 2 "is_name" (spF B.G Bb):=gF4 rfl Y.f.q18 rfl (by unfold Hy;trivial)
instance:Df B 2 "is_word" (spF B.G we):=gF4 rfl Y.f.q19 rfl (by unfold Hz;trivial)
instance:Df B 1 "is_one_of" (spF B.G tZ):=gF4 rfl Y.f.q20 rfl (by unfold DW;trivial)
instance:Df B 1 "is_whole" (spF B.G BS):=gF4 rfl Y.f.q21 rfl (by unfold FQ;trivial)
instance:Df B 1 "is_list_up_to" (spF B.G uB):=gF4 rfl Y.f.q22 rfl (by unfold z8;trivial)
instance:Df B 1 "own_list" (spF B.G BU):=gF4 rfl Y.f.q23 rfl (by unfold FR;trivial)
instance:Kf B 1 "Thing" 0 Cu []:=gJ4 (dds:=[D.non]) Y.f.k0 Y.f.a0 rfl Y.f.q24 rfl rfl (by unfold Ct;trivial) 1
instance:Kf B 1 "Mark" 1 DY []:=gI4 Y.f.k1 Y.f.a1 rfl Y.f.q25 rfl rfl (by unfold DX;trivial)
theorem zY:Bdz B (nmO (inClass (top 48) 0)) "Verb.__init__" (inClass (top 48) 0) (tG (inClass (top 48) 0)) 0 AG:=by
 unfold AG;refine Qu ?_ ?_
 all_goals trivial
instance:Kf B 1 "Verb" 2 vC [D.non,(D.str "one"),D.non]:=gJ4 (dds:=[D.non,(D.str "one"),D.non]) Y.f.k2 Y.f.a2 rfl Y.f.q26 rfl rfl zY 0
instance:Kf B 1 "Verb" 2 vC [D.non]:=gJ4 (dds:=[D.non,(D.str "one"),D.non]) Y.f.k2 Y.f.a2 rfl Y.f.q26 rfl rfl zY 2
instance:Kf B 1 "Verb" 2 vC []:=gJ4 (dds:=[D.non,(D.str "one"),D.non]) Y.f.k2 Y.f.a2 rfl Y.f.q26 rfl rfl zY 3
instance:Kf B 1 "At" 3 Bc []:=gI4 Y.f.k3 Y.f.a3 rfl Y.f.q27 rfl rfl (by unfold HA;trivial)
instance:Kf B 1 "Has" 4 zJ []:=gI4 Y.f.k4 Y.f.a4 rfl Y.f.q28 rfl rfl (by unfold FU;trivial)
instance:Kf B 1 "Seen" 5 D1 []:=gI4 Y.f.k5 Y.f.a5 rfl Y.f.q29 rfl rfl (by unfold DZ;trivial)
instance:Kf B 1 "Marked" 6 uk []:=gI4 Y.f.k6 Y.f.a6 rfl Y.f.q30 rfl rfl (by unfold Bx;trivial)
instance:Kf B 1 "Kind" 7 uU []:=gI4 Y.f.k7 Y.f.a7 rfl Y.f.q31 rfl rfl (by unfold D2;trivial)
instance:Kf B 1 "Word" 8 AH []:=gI4 Y.f.k8 Y.f.a8 rfl Y.f.q32 rfl rfl (by unfold D3;trivial)
instance:Kf B 1 "Not" 9 uY []:=gI4 Y.f.k9 Y.f.a9 rfl Y.f.q33 rfl rfl (by unfold FV;trivial)
instance:Kf B 1 "Both" 10 D5 []:=gI4 Y.f.k10 Y.f.a10 rfl Y.f.q34 rfl rfl (by unfold D4;trivial)
instance:Kf B 1 "Move" 11 xw []:=gI4 Y.f.k11 Y.f.a11 rfl Y.f.q35 rfl rfl (by unfold D6;trivial)
instance:Kf B 1 "Put" 12 yj []:=gI4 Y.f.k12 Y.f.a12 rfl Y.f.q36 rfl rfl (by unfold FW;trivial)
instance:Kf B 2 "Rule" 13 AI []:=gJ4 (dds:=[(D.bl false)]) Y.f.k13 Y.f.a13 rfl Y.f.q37 rfl rfl (by unfold D7;trivial) 1
instance:Mf B 9 "can_hold" uL:=⟨λc h e=>by
 unfold uL at e;split at e
 ·cases e;exact hF4 (k:=8) Y.f.k0 rfl Y.f.q38 rfl (by unfold zc;trivial)
 ·cases e⟩
instance:Mf B 9 "has_mark" uM:=⟨λc h e=>by
 unfold uM at e;split at e
 ·cases e;exact hF4 (k:=8) Y.f.k0 rfl Y.f.q39 rfl (by unfold ze;trivial)
 ·cases e⟩
instance:Mf B 9 "is_plainly" uN:=⟨λc h e=>by
 unfold uN at e;split at e
 ·cases e;exact hF4 (k:=8) Y.f.k0 rfl Y.f.q40 rfl (by unfold yk;trivial)
 ·cases e⟩
instance:Df B 1 "refuse_unless" (spF B.G sC):=gF4 rfl Y.f.q41 rfl (by unfold z9;trivial)
instance:Df B 1 "count_of" (spF B.G zK):=gF4 rfl Y.f.q42 rfl (by unfold FX;trivial)
instance:Df B 10 "plain_ones" (spN B.G vR):=gN4 rfl Y.f.q43 rfl (by unfold Cv;trivial)
instance:Df B 2 "is_mark" (spF B.G Dy):=gF4 rfl Y.f.q44 rfl (by unfold Dx;trivial)
instance:Df B 11 "check_things" (spF B.G yp):=gF4 rfl Y.f.q45 rfl (by unfold yn;trivial)
instance:Df B 3 "check_marks" (spF B.G yO):=gF4 rfl Y.f.q46 rfl (by unfold yN;trivial)
instance:Df B 1 "are_unlike" (spF B.G ui):=gF4 rfl Y.f.q47 rfl (by unfold Cw;trivial)
instance:Df B 3 "check_names" (spF B.G yQ):=gF4 rfl Y.f.q48 rfl (by unfold yP;trivial)
instance:Df B 10 "mark_names" (spN B.G xN):=gN4 rfl Y.f.q49 rfl (by unfold Cy;trivial)
instance:Df B 10 "is_start" (spF B.G BW):=gF4 rfl Y.f.q50 rfl (by unfold BV;trivial)
instance:Df B 1 "comes_to_room" (spF B.G xD):=gF4 rfl Y.f.q51 rfl (by unfold Aa;trivial)
instance:Df B 11 "check_starts" (spF B.G yt):=gF5 ["things", "starts", "thing"] rfl Y.f.q52 rfl (by unfold yq;trivial)
instance:Df B 3 "are_words" (spF B.G AK):=gF4 rfl Y.f.q53 rfl (by unfold AJ;trivial)
instance:Df B 1 "has_all" (spF B.G Bd):=gF4 rfl Y.f.q54 rfl (by unfold HB;trivial)
instance:Df B 2 "is_told_apart" (spF B.G xF):=gF4 rfl Y.f.q55 rfl (by unfold xE;trivial)
instance:Df B 11 "check_words_of_things" (spF B.G uP):=gF4 rfl Y.f.q56 rfl (by unfold uO;trivial)
instance:Df B 2 "check_dark" (spF B.G zM):=gF4 rfl Y.f.q57 rfl (by unfold zL;trivial)
instance:Df B 3 "is_way" (spF B.G FZ):=gF4 rfl Y.f.q58 rfl (by unfold FY;trivial)
instance:Df B 4 "check_ways" (spF B.G xO):=gF4 rfl Y.f.q59 rfl (by unfold zN;trivial)
instance:Df B 2 "check_verbs" (spF B.G yR):=gF4 rfl Y.f.q60 rfl (by unfold By;trivial)
instance:Df B 1 "are_apart" (spF B.G xy):=gF4 rfl Y.f.q61 rfl (by unfold D8;trivial)
instance:Df B 11 "check_vocabulary" (spF B.G uZ):=gF4 rfl Y.f.q62 rfl (by unfold wb;trivial)
instance:Df B 12 "check_parts" (spF B.G yT):=gF4 rfl Y.f.q63 rfl (by unfold yS;trivial)
instance:Df B 4 "does" (spF B.G yU):=gF4 rfl Y.f.q64 rfl (by unfold QC;trivial)
instance:Df B 4 "refuses" (spF B.G tX):=gF4 rfl Y.f.q65 rfl (by unfold HC;trivial)
instance:Df B 5 "hand_rules" (spN B.G CB):=gN4 rfl Y.f.q66 rfl (by unfold CA;trivial)
instance:Df B 5 "put_rules" (spN B.G Ea):=gN4 rfl Y.f.q67 rfl (by unfold D9;trivial)
instance:Df B 5 "lid_rules" (spN B.G Ec):=gN4 rfl Y.f.q68 rfl (by unfold Eb;trivial)
instance:Df B 5 "flame_rules" (spN B.G BB):=gN4 rfl Y.f.q69 rfl (by unfold BA;trivial)
instance:Df B 3 "way_tests" (spN B.G Ee):=gN4 rfl Y.f.q70 rfl (by unfold Ed;trivial)
instance:Df B 5 "go_rules" (spN B.G F1):=gN4 rfl Y.f.q71 rfl (by unfold F0;trivial)
instance:Df B 5 "wait_rules" (spN B.G CD):=gN4 rfl Y.f.q72 rfl (by unfold CC;trivial)
instance:Df B 6 "common_rules" (spN B.G vE):=gN4 rfl Y.f.q73 rfl (by unfold AL;trivial)
instance:Df B 3 "common_verbs" (spN B.G uQ):=gN4 rfl Y.f.q74 rfl (by unfold AM;trivial)
instance:Df B 1 "by_name" (spF B.G DB):=gF4 rfl Y.f.q75 rfl (by unfold DA;trivial)
instance:Df B 10 "mosts_by_name" (spF B.G u9):=gF4 rfl Y.f.q76 rfl (by unfold xG;trivial)
instance:Df B 1 "verbs_by_word" (spF B.G va):=gF4 rfl Y.f.q77 rfl (by unfold Ab;trivial)
instance:Df B 1 "by_verb" (spF B.G zg):=gF4 rfl Y.f.q78 rfl (by unfold HD;refine⟨NZ (stW (by kernel_rfl) E3 rfl) (OC om rfl (JE (Jw B.G.K (K6 (pvI (by kernel_rfl))))) (pgI (by kernel_rfl)) (HY (LW (O2 B.G.K fP j2 m7 CY (P7 (pvI (by kernel_rfl)) (Pf (K6 (pvI (by kernel_rfl))) (Ff.p (B:=B))) (OL yc) ⟨rfl,rfl,rfl,rfl⟩) (uD (pvI (by kernel_rfl)) yc))))) (KI (PE.ghost (pvI (by kernel_rfl))))⟩)
instance:Mf B 9 "of_kind" ve:=⟨λc h e=>by
 unfold ve at e;split at e
 ·cases e;exact hF4 (k:=8) Y.f.k14 rfl Y.f.q79 rfl (by unfold Ac;trivial)
 ·cases e⟩
instance:Mf B 9 "all_verbs" v5:=⟨λc h e=>by
 unfold v5 at e;split at e
 ·cases e;exact hF4 (k:=8) Y.f.k14 rfl Y.f.q80 rfl (by unfold yH;trivial)
 ·cases e⟩
instance:Kf B 13 "World" 14 wH []:=gI4 Y.f.k14 Y.f.a14 rfl Y.f.q81 rfl rfl (by unfold wG;trivial)
instance:Mf B 9 "you" zh:=⟨λc h e=>by
 unfold zh at e;split at e
 ·cases e;exact hF4 (k:=8) Y.f.k14 rfl Y.f.q82 rfl (by unfold Ef;trivial)
 ·cases e⟩
instance:Mf B 9 "thing_of" ur:=⟨λc h e=>by
 unfold ur at e;split at e
 ·cases e;exact hF4 (k:=8) Y.f.k14 rfl Y.f.q83 rfl (by unfold zi;trivial)
 ·cases e⟩
instance:Mf B 9 "is_dark" xj:=⟨λc h e=>by
 unfold xj at e;split at e
 ·cases e;exact hF4 (k:=8) Y.f.k14 rfl Y.f.q84 rfl (by unfold Ad;trivial)
 ·cases e⟩
instance:Df B 1 "value_of" (spF B.G yu):=gF4 rfl Y.f.q85 rfl (by unfold F2;trivial)
instance:Df B 2 "at_of" (spF B.G vS):=gF4 rfl Y.f.q86 rfl (by unfold MH;trivial)
instance:Df B 2 "mark_of" (spF B.G wg):=gF4 rfl Y.f.q87 rfl (by unfold HE;trivial)
instance:Df B 3 "holders_of" (spN B.G xP):=gN4 rfl Y.f.q88 rfl (by unfold CG;trivial)
instance:Df B 10 "room_of" (spF B.G wj):=gF4 rfl Y.f.q89 rfl (by unfold HF;trivial)
instance:Df B 10 "is_shut" (spF B.G wm):=gF4 rfl Y.f.q90 rfl (by unfold HG;trivial)
instance:Df B 11 "in_open" (spF B.G wo):=gF4 rfl Y.f.q91 rfl (by unfold HH;trivial)
instance:Df B 10 "has" (spF B.G UN):=gF4 rfl Y.f.q92 rfl (by unfold UM;trivial)
instance:Df B 12 "burns_in" (spF B.G zO):=gF4 rfl Y.f.q93 rfl (by unfold F3;trivial)
instance:Df B 13 "is_lit" (spF B.G CH):=gF4 rfl Y.f.q94 rfl (by unfold Ki;trivial)
instance:Df B 14 "is_seen" (spF B.G DC):=gF4 rfl Y.f.q95 rfl (by unfold HI;trivial)
instance:Mf B 9 "verb_of" yV:=⟨λc h e=>by
 unfold yV at e;split at e
 ·cases e;exact hF4 (k:=8) Y.f.k14 rfl Y.f.q96 rfl (by unfold Ag;trivial)
 ·cases e⟩
instance:Df B 10 "is_of_way" (spF B.G AN):=gF4 rfl Y.f.q97 rfl (by unfold Eh;trivial)
instance:Df B 11 "things_of" (spF B.G vF):=gF4 rfl Y.f.q98 rfl (by unfold Ei;trivial)
instance:Df B 12 "meant" (spF B.G wI):=gF4 rfl Y.f.q99 rfl (by unfold Be;trivial)
instance:Mf B 16 "holds" (tK 0):=⟨λc h e=>by
 unfold tK zR at e;split at e
 ·cases e;exact hF4 (k:=15) Y.f.k3 rfl Y.f.q100 rfl (by unfold BX;trivial)
 ·cases e;exact hF4 (k:=15) Y.f.k4 rfl Y.f.q101 rfl (by unfold Ej;trivial)
 ·cases e;exact hF4 (k:=15) Y.f.k5 rfl Y.f.q102 rfl (by unfold CI;trivial)
 ·cases e;exact hF4 (k:=15) Y.f.k6 rfl Y.f.q103 rfl (by unfold yw;trivial)
 ·cases e;exact hF4 (k:=15) Y.f.k7 rfl Y.f.q104 rfl (by unfold zQ;trivial)
 ·cases e;exact hF4 (k:=15) Y.f.k8 rfl Y.f.q105 rfl (by unfold CL;trivial)
 ·cases e;exact hF4 (k:=15) Y.f.k15 rfl Y.f.q106 rfl (by unfold El;trivial)
 ·cases e⟩
instance:Mf B 17 "holds" (tK 1):=⟨λc h e=>by
 unfold tK at e;split at e
 ·cases e;exact hF4 (k:=16) Y.f.k9 rfl Y.f.q107 rfl (by unfold yI;trivial)
 ·cases e;exact hF4 (k:=16) Y.f.k10 rfl Y.f.q108 rfl (by unfold xQ;trivial)
 ·exact(Mf.p (B:=B) (g:=tK 0) c h e).mono rfl⟩
instance:Mf B 18 "holds" (tK 2):=⟨λc h e=>by
 unfold tK at e;split at e
 ·cases e;exact hF4 (k:=17) Y.f.k9 rfl Y.f.q107 rfl (by unfold yI;trivial)
 ·cases e;exact hF4 (k:=17) Y.f.k10 rfl Y.f.q108 rfl (by unfold xQ;trivial)
 ·exact(Mf.p (B:=B) (g:=tK 0) c h e).mono rfl⟩
instance:Mf B 19 "holds" (tK 3):=⟨λc h e=>by
 unfold tK at e;split at e
 ·cases e;exact hF4 (k:=18) Y.f.k9 rfl Y.f.q107 rfl (by unfold yI;trivial)
 ·cases e;exact hF4 (k:=18) Y.f.k10 rfl Y.f.q108 rfl (by unfold xQ;trivial)
 ·exact(Mf.p (B:=B) (g:=tK 0) c h e).mono rfl⟩
instance:Df B 1 "_law_cell_at" (spF B.G wK):=gF4 rfl Y.f.q109 rfl (by unfold AO;trivial)
instance:Df B 1 "_law_draws" (spN B.G wN):=gN4 rfl Y.f.q110 rfl (by unfold CN;trivial)
instance:Df B 1 "_law_take" (spM B.G rY):=gM4 rfl Y.f.q111 rfl rfl (by unfold En;trivial)
instance:Df B 2 "_law_names" (spM B.G zT):=gM4 rfl Y.f.q112 rfl rfl (by unfold zS;trivial)
instance:Df B 2 "_law_others" (spL B.G vg):=gL4 rfl Y.f.q113 rfl (by unfold xk;trivial)
instance:Df B 3 "_law_spec" (spF B.G AR):=gF4 rfl Y.f.q114 rfl (by unfold AQ;trivial)
instance:Df B 1 "_law_ways" (spN B.G AU):=gN4 rfl Y.f.q115 rfl (by unfold AS;trivial)
instance:Df B 15 "_law_world" (spF B.G zV):=gF4 rfl Y.f.q116 rfl (by unfold zU;trivial)
instance:Df B 1 "_law_of" (spN B.G tR):=gN4 rfl Y.f.q117 rfl (by unfold HJ;trivial)
instance:Df B 2 "_law_mosts" (spF B.G u0):=gF4 rfl Y.f.q118 rfl (by unfold zW;trivial)
instance:Df B 2 "_law_places" (spL B.G uH):=gL4 rfl Y.f.q119 rfl (by unfold xl;trivial)
instance:Df B 3 "_law_marks" (spL B.G vT):=gL4 rfl Y.f.q120 rfl (by unfold xR;trivial)
instance:Df B 1 "_law_stand" (spF B.G xS):=gF4 rfl Y.f.q121 rfl (by unfold CO;trivial)
instance:Df B 1 "_law_holders" (spN B.G vG):=gN4 rfl Y.f.q122 rfl (by unfold AV;trivial)
instance:Df B 2 "_law_in_open" (spF B.G tE):=gF4 rfl Y.f.q123 rfl (by unfold AW;trivial)
instance:Df B 3 "_law_lit" (spF B.G zX):=gF4 rfl Y.f.q124 rfl (by unfold F4;trivial)
instance:Df B 4 "_law_seen" (spN B.G AX):=gN4 rfl Y.f.q125 rfl (by unfold Eo;trivial)
instance:Df B 2 "_law_command" (spL B.G vH):=gL4 rfl Y.f.q126 rfl (by unfold wQ;trivial)
instance:Df B 1 "_law_form" (spF B.G AY):=gF4 rfl Y.f.q127 rfl (by unfold Ep;trivial)
instance:Df B 2 "_law_term" (spL B.G vJ):=gL4 rfl Y.f.q128 rfl (by unfold xA;trivial)
instance:Df B 2 "_law_place" (spL B.G xU):=gL4 rfl Y.f.q129 rfl (by unfold xT;trivial)
instance:Df B 3 "_law_marked" (spL B.G vZ):=gL4 rfl Y.f.q130 rfl (by unfold xm;trivial)
instance:Dj B 1 "_law_asked" 2 (sV 0):=⟨gJ5 (k:=0) rfl (by decide) Y.f.q131 rfl (by trivial)⟩
instance:Dj B 4 "_law_asked" 2 (sV 1):=⟨gJ5 (k:=3) rfl (by decide) Y.f.q131 rfl (by unfold uj;trivial)⟩
instance:Dj B 5 "_law_asked" 2 (sV 2):=⟨gJ5 (k:=4) rfl (by decide) Y.f.q131 rfl (by unfold uj;trivial)⟩
instance:Dj B 6 "_law_asked" 2 (sV 3):=⟨gJ5 (k:=5) rfl (by decide) Y.f.q131 rfl (by unfold uj;trivial)⟩
instance:Dj B 7 "_law_asked" 2 (sV 4):=⟨gJ5 (k:=6) rfl (by decide) Y.f.q131 rfl (by unfold uj;trivial)⟩
instance:Df B 1 "_law_test" (spF B.G (tP 0)):=gF4 (k:=0) rfl Y.f.q132 rfl (by trivial)
instance:Df B 3 "_law_test" (spF B.G (tP 1)):=gF4 (k:=2) rfl Y.f.q132 rfl (by unfold vK;trivial)
instance:Df B 4 "_law_test" (spF B.G (tP 2)):=gF4 (k:=3) rfl Y.f.q132 rfl (by unfold vK;trivial)
instance:Df B 5 "_law_test" (spF B.G (tP 3)):=gF4 (k:=4) rfl Y.f.q132 rfl (by unfold vK;trivial)
instance:Df B 6 "_law_test" (spF B.G (tP 4)):=gF4 (k:=5) rfl Y.f.q132 rfl (by unfold vK;trivial)
instance:Df B 1 "_law_meant" (spF B.G wU):=gF4 rfl Y.f.q133 rfl (by unfold CP;trivial)
instance:Df B 1 "_law_so" (spF B.G (uC 0)):=gF4 (k:=0) rfl Y.f.q134 rfl (by trivial)
instance:Df B 5 "_law_so" (spF B.G (uC 1)):=gF4 (k:=4) rfl Y.f.q134 rfl (by unfold ud;trivial)
instance:Df B 6 "_law_so" (spF B.G (uC 2)):=gF4 (k:=5) rfl Y.f.q134 rfl (by unfold ud;trivial)
instance:Df B 7 "_law_so" (spF B.G (uC 3)):=gF4 (k:=6) rfl Y.f.q134 rfl (by unfold ud;trivial)
instance:Df B 8 "_law_so" (spF B.G (uC 4)):=gF4 (k:=7) rfl Y.f.q134 rfl (by unfold ud;trivial)
instance:Df B 1 "_law_truth" (spF B.G vU):=gF4 rfl Y.f.q135 rfl (by unfold CQ;trivial)
instance:Df B 1 "_law_wish" (spF B.G (uo 0)):=gF4 (k:=0) rfl Y.f.q136 rfl (by trivial)
instance:Df B 2 "_law_wish" (spF B.G (uo 1)):=gF4 (k:=1) rfl Y.f.q136 rfl (by unfold um;trivial)
instance:Df B 3 "_law_wish" (spF B.G (uo 2)):=gF4 (k:=2) rfl Y.f.q136 rfl (by unfold um;trivial)
instance:Df B 4 "_law_wish" (spF B.G (uo 3)):=gF4 (k:=3) rfl Y.f.q136 rfl (by unfold um;trivial)
instance:Df B 5 "_law_wish" (spF B.G (uo 4)):=gF4 (k:=4) rfl Y.f.q136 rfl (by unfold um;trivial)
theorem Rp:Bdz B (nmO (top 164)) "law" (top 164) (tG (top 164)) 19 QD:=by
 unfold QD;refine Qu ?_ ?_
 all_goals trivial
end
end K22x
namespace K22x
open PySem L2 L3 L4
def M8(K:ay):Sp:=λvs H Q _=>∃(a:Addr) (ns:List Int),vs=[.ref a]/\SqL K H a (ns.map V.int)/\ns.length<=63/\∀H',Q (.bl true) H'
theorem HV{G:Bg}{H:Hp}:∀ns:List Int,sj G H (ns.map D.int) (ns.map V.int)
 |[]=>tf
 |n::ns=>sX (uV n) (HV ns)
theorem Uv{G:Bg}:∀vs H Q E,M8 G.K vs H Q E->spF G UO vs H Q E:=λvs H Q E h=>by obtain⟨a,ns,rfl,hs,hl,k⟩:=h;refine⟨H,[.fzl (ns.map D.int)],.bl true,sA.refl _,sX (by unfold L4.Rep;exact⟨a,_,rfl,hs,HV ns⟩) tf,YT ns hl,λv H0' H' _ _ _ _ r=>?_⟩;unfold L4.Rep at r;subst r;exact k H'
section
variable{K:ay}{x m q:Str}{st:Stmt}{f C:Addr}{oc:ae}{od:Option Addr}{kV doc pm:ae}{an:Option Addr}{cdv ct:ae}{osl:Array (Option ae)}
theorem Rq(lk:K.lookup f=some ⟨oc,od,.func (dO x q (wz st) (tG st) (sM st) .none kV doc pm an cdv ct),osl⟩)(hc:f6 K cdv q=true)(kp:du K (.ref f)=true):∃fd,Fun K x q st f fd:=⟨_,⟨_,_,_,_,_,_,_,_,_,rfl,lk,hc⟩,kp⟩
theorem gd_mk(h:ic K aX x=some (some (.ref f)))(lk:K.lookup f=some ⟨oc,od,.func (dO x x (wz st) (tG st) (sM st) .none kV doc pm an cdv ct),osl⟩)(hc:f6 K cdv x=true)(kp:du K (.ref f)=true):GD K x st:=⟨f,(Rq lk hc kp).imp λ_ F=>⟨h,F⟩⟩
theorem gm_mk(h:cE K (.ref C) m=some (some (.ref f)))(hf:ju K (.ref f)=true)(lk:K.lookup f=some ⟨oc,od,.func (dO m q (wz st) (tG st) (sM st) .none kV doc pm an cdv ct),osl⟩)(hc:f6 K cdv q=true)(kp:du K (.ref f)=true):GM K C m q st:=⟨f,(Rq lk hc kp).imp λ_ F=>⟨h,hf,F⟩⟩
end
theorem all_mk{l:f7}{w:aL}{K:ay}{h:Heap}{mg:Str->Option ae}{fa:Addr}(X:K.In h)(Gn:h.Ns aX mg)(hfa:mg "law" = some (.ref fa)){C0 C1 C2 C3 C4 C5 C6 C7 C8 C9 C10 C11 C12 C13 C14 C15:Addr}(F:Fx K C0 C1 C2 C3 C4 C5 C6 C7 C8 C9 C10 C11 C12 C13 C14 C15):
  ∃fd:cb,(∀(s:ag) (v:ae),f9 s fd ⟨[v],[]⟩ [("_law_script", v)])/\∀base:Heap,K.In base->base.Ns aX mg->wx l.prog w K mg base CX0 20 fa fd ["_law_script"] (M8 K):=by
 have gen:∃B:Bg,B.K=K/\B.ca 0=C0/\B.ca 1=C1/\B.ca 2=C2/\B.ca 3=C3/\B.ca 4=C4/\B.ca 5=C5/\B.ca 6=C6/\B.ca 7=C7/\B.ca 8=C8/\B.ca 9=C9/\B.ca 10=C10/\B.ca 11=C11/\B.ca 12=C12/\B.ca 13=C13/\B.ca 14=C14/\B.ca 15=C15:=⟨⟨K,λc=>[C0,C1,C2,C3,C4,C5,C6,C7,C8,C9,C10,C11,C12,C13,C14,C15].getD c 0⟩,rfl,rfl,rfl,rfl,rfl,rfl,rfl,rfl,rfl,rfl,rfl,rfl,rfl,rfl,rfl,rfl,rfl⟩;obtain⟨B,rfl,rfl,rfl,rfl,rfl,rfl,rfl,rfl,rfl,rfl,rfl,rfl,rfl,rfl,rfl,rfl,rfl⟩:=gen;have Z:∀base,Yx ⟨l.prog,w,mg,base,B⟩:=λbase=>⟨⟨h,X,Gn⟩,F⟩;obtain⟨f,fd,a,FF⟩:=F.q137;have e:=hfa.symm.trans (jt X Gn a);cases e;obtain⟨oc,od,kV,doc,pm,an,cdv,ct,osl,rfl,lk,hcd⟩:=FF.ex;exact⟨_,λs v=>.of_eq rfl,λbase _ _=>(Pz rfl rfl rfl FF (okk (N:=nmO (top 164)) (ps:=["_law_script"]) (np:=1) (n:=16) (by kernel_rfl)).1 ((@Rp _ (Z base)).ok rfl _)).imp (Uv (G:=B))⟩
theorem walk{l:f7}{q:aV}{loose:aF}{XP:(Str->Option ae)->Heap->Prop}{YP:aL->Heap->Prop}{d:DefRec}{K:Params->ay}(hn:l.most=some 63)(hdf:d.params.defaults=[])
  (hY:∀(w:aL) (h:Heap),YP w h->(K w.params).In h)
  (F:∀(w:aL) (mg:Str->Option ae) (fa:Addr) (h:Heap),(K w.params).In h->h.Ns aX mg->mg d.name=some (.ref fa)->
   ∃fd:cb,(∀(s:ag) (u:ae),f9 s fd ⟨[u],[]⟩ [("_law_script", u)])/\∀base:Heap,(K w.params).In base->base.Ns aX mg->wx l.prog w (K w.params) mg base CX0 20 fa fd ["_law_script"] (M8 (K w.params))):
  W.WalkO q loose XP YP l.row.toRowW d [] (λf vs=>kZ f vs):=
 L2.R8 (n:=63) (k:=20) (x:="_law_script") (CX:=λ_=>CX0) (sp:=λw=>M8 (K w.params)) hn (by decide) hdf ⟨rfl,by decide,by decide⟩ hY F (λ_ _ a ns hl _ hS=>⟨a,ns,rfl,hS,hl,λ_=>rfl⟩) λ_ _ _ _ _ z=>z
end K22x
set_option maxHeartbeats 0
open PySem PySem.W PyProof.Rows
theorem PySem.Challenge.cw_tellworld_k22_tests_in_tests_holds : PySem.Challenge.rw_tellworld_k22_tests_in_tests.Holds := by
 refine hd ?_
 k_fill
 refine K22x.walk (l:=PySem.Challenge.rw_tellworld_k22_tests_in_tests) rfl rfl (λw h Y=>Y) ?F
 case F=>
  intro w mg fa h KX G hmg;refine' K22x.all_mk KX G hmg ?Q
  case Q=>
   constructor
   all_goals as_aux_lemma=>first
   |k_is
   |kernel_rfl
   |exact⟨⟨⟨by k_is,by k_is,by k_is,by k_is⟩,by k_is,by k_is,by k_is,by k_is⟩,by k_is,by k_is,by kernel_rfl⟩
   |exact⟨_,by k_is⟩
   |exact K22x.gd_mk (by k_is) (by k_is) (by k_is) (by k_is)
   |exact K22x.gm_mk (by k_is) (by k_is) (by k_is) (by k_is) (by k_is)
   |exact⟨_,_,_,_,by k_is,by k_is,by rfl,by rfl,by simp,by repeat' first|exact .nil|exact .cons rfl .nil|refine .cons rfl ?_⟩
   |exact⟨_,_,_,_,[_],_,by k_is,by k_is,⟨⟨_,_,_,_,_,_,_,_,_,rfl,by k_is,by k_is⟩,by k_is⟩,by k_is,by rfl,.cons (by first|rfl|exact⟨_,rfl⟩) .nil⟩
   |exact⟨_,_,_,_,[_,_,_],_,by k_is,by k_is,⟨⟨_,_,_,_,_,_,_,_,_,rfl,by k_is,by k_is⟩,by k_is⟩,by k_is,by rfl,.cons (by first|rfl|exact⟨_,rfl⟩) (.cons (by first|rfl|exact⟨_,rfl⟩) (.cons (by first|rfl|exact⟨_,rfl⟩) .nil))⟩
end
