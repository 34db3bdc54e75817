import PyProof.Rows.All
import Open.Pieces
import OpenK.KLine
import PySem.Challenge.RW_tellworld_k10_whole_worlds_let_by
import Wide.All
import OpenK.AllK
import Wide.FinOn
import PyProof.EqAt
import PyProof.EqKinds
import PyProof.TupleCall
import PyProof.StrWalks
import PyProof.ConsumeWalk
import PyProof.NeKinds
import PyProof.Rows.SetFrom
import KE.KIsAll
import PyProof.WalksMore
import PyProof.TupleKey
import PyProof.DictWalks
import PyProof.Rows.ZipGen
import KE.KDictLaws
import PyProof.DictItems
import KE.KSortTup
import PyProof.TupleOfSeq
import PyProof.Rows.SortStr
import PyProof.Rows.StrInSeq3
import PyProof.TupleIter
import KE.KDictOf
import PyProof.CollectWalk
import PyProof.Rows.SeqMore
set_option genSizeOf false
local macro_rules (kind:=Lean.Parser.Command.declaration)|s=>do
 if s.getPos?.isNone||s[1][1][0].getId.getRoot== `PySem then Lean.Macro.throwUnsupported
 let s:=s.rewriteBottomUp (·.setInfo .none)
 if s[1].getKind∈[``Lean.Parser.Command.definition,``Lean.Parser.Command.abbrev,``Lean.Parser.Command.instance]&&s[0][4].isNone then
  return s.setArg 0 (s[0].setArg 4 (Lean.mkNullNode #[Lean.Syntax.node .none ``Lean.Parser.Command.noncomputable #[Lean.mkAtom "noncomputable"]]))
 return s
set_option compiler.extract_closed false
noncomputable section
open List renaming length_map->ag,length_append->au,length_cons->aA,getElem?_eq_getElem->aQ,mem_cons_of_mem->aH,all_eq_true->aD,mem_cons_self->aG,map_cons->aF,size_toArray->aR,length_singleton->bf,getElem?_eq_some_iff->br,getElem?_map->aY,mem_map->aI,mem_singleton->bb,mem_cons->aP,mem_append_right->bh,mem_append->aV,mem_of_getElem?->bF,mem_append_left->bI,length_nil->bg,map_append->bj,getElem?_set->bG,mem_filter->bu,range->aT,append_assoc->bJ,length_range->bK,length_replicate->b8,length_take->bL,append_nil->bH,nodup_append->bR,nil_append->bM,mem_range->bN,map_map->bx,getElem?_append_left->cY,getElem?_append_right->dr,filterMap_cons->cJ,mem_map_of_mem->cM,getElem?_drop->c4,getD_eq_getElem?_getD->eC,foldl_cons->cA,any_eq_true->cN,length_filter_le->dP,all_cons->cq,zip_cons_cons->dw,mem_iff_getElem->dQ,flatMap_cons->dA,length_set->c7,find?_cons->dc,mem_filterMap->dR,lookup_cons->dB,nodup_cons->dD,lookup->cF,getElem?_eq_none->eZ,pairwise_iff_getElem->fZ,length->cP,getElem?_replicate->f7,length_drop->eD,getElem?_set_self->gb,zipWith_cons_cons->gf,any_cons->dZ,perm_append_singleton->ia,getElem_mem->fG,mem_flatMap->fH,drop_eq_getElem_cons->ie,length_zip->fK,length_eq_zero_iff->ig,map_nil->eM,zipWith->eN,take_of_length_le->ik,filter_eq_nil_iff->ip,getElem?_toArray->iq,filterMap_append->ir,map_take->fN,getElem?_set_ne->iu,of_mem_zip->gw,getElem?_range->iy,length_zipWith->iz,getElem_of_mem->iA,map_congr_left->iC,all_map->fP,replicate->gA,nodup_nil->gB,mem_take_iff_getElem->jH,foldl_append->iN,filterMap_cons_none->jK,length_filterMap_le->jM,getElem_inj->iO,getElem?_cons_succ->jP,getElem?_cons_zero->jQ,drop_eq_nil_of_le->jV,length_eq_one_iff->jY,contains_iff_mem->j2,take_append_drop->j4,mem_of_mem_drop->j8,pairwise_append->j9,mem_of_mem_take->kc,map_id->gV,map_eq_nil_iff->kq,flatMap_append->kr,contains_cons->kA,ext_getElem?->kH,take_sublist->kI,take_add_one->kM,pairwise_map->kO,not_mem_nil->kY,filter_cons->kZ,nodup_range->lg,countP_cons->lh,flatMap_nil->lr,zip_append->lA,drop_nil->l6,zip_map'->me,rec->mJ
open PySem renaming Value->aa,Shared->ae,wpAny_bind->aj,wpAny_pure->ay,wpAny->af,starEach->az,sizeLine->aB,mainGlobals->aK,Program->ar,Around->aw,World->aq,compareOp->aS,Spec->oF,wpAny_mono->bz,wpAny_truthy_bool->cz,wpAny_holding->cp,SetTable->bq,wpAny_Call_Name_kw->dv,FuncData->bA,behindInMarks->cD,backTo->aZ,assignEach->cg,bootBuiltins->cO,sizeLine_eq->cE,swapsWith->cj,sysModules->cG,mem_of_lookup->fq,keywordEach->dj,letOwnedTupleGo->eF,binaryOp->ck,codeAny_builtin->eG,attributeBase->dY,wpAny_pyIter_list->fA,foldedSetIterable->fB,codeAny->bY,wpAny_newObj_type->fC,ofAClassStatement->fD,wpAny_setState_of->fF,codeAny_mono->d0,wpAny_execs_nil->fI,wpAny_passesOwn->fJ,NameKind->cR,wpAny_specialOf->gx,wpAny_pyIter_tuple->iE,tupleKind_room_in1->iH,Scope->bZ,plainId_quiet->gE,GenState->eA,wpAny_execs_cons->iP,noFill_tuple_add->iQ,wpAny_callSpecial?_slot->jN,wpAny_call_entry->iU,wpAny_forIn_list->iV,Paired->eQ,Result->cW,IsPart->cX,wpAny_typeOf->gL,wpAny_isTrue_Compare1->jZ,wpAny_eqIsQuiet_tuple->j3,carriedByValue->iZ,typeIs_none->gU,wpAny_standAt->i5,seq_tuple_add->i8,wpAny_call->gX,call_meets->gY,Within->jb,BindsTo->eS,concat_meets->jf,wpAny_sequenceKey->kJ,seqIndex_neg->jg,slot_list_getitem->kK,Keyword->eU,wpAny_storeSet_of->kQ,wpAny_field->jq,seqIndex_of->jr,codeAny_of_tree->lC,wpAny_Name->ju,wpAny_Expr_any->lG,Operator->hE,PlainAttrs->jw,wpAny_notIn_of->lK,call->jx,wpAny_seqItems->lL,isSubtype_type->lN,boot_len->lQ,KeyKind->lX,intBits_le_64->lY,evalPart_none->l3,call_list_seq->l4,CmpOp->eB,Params->fW,SetFound->jC
open PySem.Heap renaming get?_push_of_some->aM,lt_size->aJ,get?_push_size->bB,size_push->eI,SameBut->eK,get?_update_other->jS,get?_update_self->j1,MadeExcOf->lS,FlyingW->mw
open Nat renaming le_of_ble_eq_true->aL,le_refl->aC,ne_of_lt->aW,lt_of_lt_of_le->bQ,le_trans->bp,zero_le->cb,lt_succ_of_lt->dy,le_of_lt_succ->dU,lt_succ_self->dW,succ_pos->df,lt_irrefl->dE,ble_eq->cQ,zero_add->eJ,ble->cy,mod_lt->ee,le_add_right->gv,min_self->fO,lt_of_le_of_lt->iI,le_of_lt->gG,lt_trans->gO,sub_self->gQ,min_le_left->iX,le_succ->gS,add_right_comm->ku,lt_or_eq_of_le->kF,ne_of_gt->jc,lt_trichotomy->kN,lt_or_ge->jh,le_of_not_lt->kW,beq->fU,le_of_eq->mh,pow_succ->mr
open Bool renaming and_eq_true->aE,false_ne_true->ba,not_eq_true'->bV,eq_iff_iff->bS,not_eq_false'->dS,true_and->de,or_eq_false_iff->fi,false_eq_true->fz,eq_false_iff->gq,not_not->eO,or_eq_true->gy,and_true->ja,not_eq_true->lb,and_false->lI,false_or->l5,rec->jB
open PySem.W renaming Frag->ak,kia_one->cc,emptyDict->dh,findIn->cu,kitOne->cv,keepIn->cH,instObj->dG,callWith_K->gH,fnOf->dq,codeIn->eR,plainGet_of->i7,plainGet->gW,OpenLaw->fS,hideAll_get->ji,cellsFrom_some->kU,methodObj->jk,hasDictIn->jm,kitx_list->jn,kitx_dict->jo,of_hideAll->jt,methodCall_KW->ly,lookIn->hJ,nsIn->eV,callWith_K0->lZ,takerIn->jz,kitx_tuple->mi,mg_of->hU,plainOver->mC,specialIn->mD,isFn->hX
open Array renaming getElem?_toList->bO,length_toList->bP,getElem?_eq_getElem->du,getD_eq_getD_getElem?->dN,getElem?_eq_some_iff->fX,size_setIfInBounds->jJ,toList_filterMap->jX,replicate->iY,forIn_toList->kC,toList_push->kR,size_map->lR,toList->mf
open PySem.SetTable renaming below->bw,turns->bE,insertAt->b9,runEnd->bT,Probe->cm,bits->cf,advance->eE,grown->fL,insertAt_perm->il,fits->fM,fill->i9,sizeAbove->kG,layClean->kP,slot->l8,leap->l9,laid->md,has->mn
open PySem.SetTable.layClean renaming free->cI
open Option.some renaming inj->bW,injEq->ou
open PyProof.Rows renaming slot_tuple_getitem->dM,AllBare->cU,subscriptTail_builtinR->jR,StrsAre->j7,entry_tuple_getitem->kg,args_tuple_getitem->kz,boot_isinstance->lE,IntsAre->fV,slicePart_none->lH,Subscript_->jv,tupleItemsOf_->l0,IsTup->eW
open Int renaming eq_ofNat_of_zero_le->cZ,emod_lt_of_pos->gn,toNat_natCast->gp,emod_nonneg->gz
open PyProof.Rows.F renaming plain_set_update_loop->dO,entry_set_update_loop->f9
open PySem.SetTable.probe renaming go->c5
open False renaming elim->bU
open PySem.Builtin.List renaming listTooLong->eX
open Classical renaming propDecidable->eY,byContradiction->jG
open PySem.Builtin.Slice renaming slicePlaces->fY,sliceAdjust->ib,sliceApplied->jE,slicePartIndex->mK,sliceFields->m3
open Option renaming map_some->dX,getD_none->gu,map_eq_some_iff->jU,isSome_map->kL,getD_some->kX
open PySem.Around renaming under_plainId->fo,under->jd
open Prod renaming fst->bX,snd->fT
open PySem.Builtin.Tuple renaming tupleExact->f6,tupleItemsOf->jF
open PySem.F renaming called_set->dF,plainAttrs_list->fE,slot_NoneType_hash->gh,slot_list_extend->gm,args_tuple_add_2->iF,slot_list_append->iG,entry_tuple_add->iM,slot_tuple_add->iR,slot_dict_setdefault->jW,args_list_extend_2->j5,sub_list_frozenset->j6,excBase_ValueError->ka,entry_list_extend->ko,type_list_append->kD,type_list_extend->kE,slot_list_count->kT,plain_set_new->lD,sub_list_set->lO
open PySem.Calls renaming spliced_cons->gj,evalArgs_plain->iw,Name_function_global->jD,spliced_nil->iK,callWith_builtin->jT
open PySem.SetTable.below renaming go->gr
open LawfulBEq renaming eq_of_beq->dH
open PySem.Heap.SameBut renaming update->iB
open Nat.succ renaming inj->fQ
open PySem.Obj renaming mapSeq->eP,putSet->jy
open PySem.SeqAt.EqAt renaming of_refs->iJ,same->iW,none_int->kh,none_str->kl,int_none->km,str_none->kn,int_str->kx,str_int->ky,tuple_none->nE,tuple_bool->nF,tuple_list->nG,list_tuple->nH,none_tuple->nI,bool_tuple->nJ,none_bool->nM,bool_none->nN,bool_bool->nO,tuple_int->nP,tuple_str->nQ,list_none->nR,list_bool->nT,none_list->nV,bool_list->nW,int_tuple->nX,str_tuple->nY,bool_int->nZ,bool_str->n4,int_bool->n5,str_bool->n9,list_int->oa,list_str->oe,int_list->og,str_list->oh,int_int->om,str_str->oo
open PySem.AutoSeq1 renaming wpAny_loadPart'->jI
open PySem.SeqAt renaming eq_list_lengthsAt->jO,EqAt->fR,in_listAt->lu,list_countAt->nz
open Ne renaming symm->dJ
open Sum.inr renaming inj->gR
open PySem.Paired renaming length->i4,snoc->mF
open PySem.Walks renaming list->gZ,tuple->mG
open PySem.Code renaming isFrame->je,frames->mE
open PySem.Moved renaming trans->js
open PySem.Builtin.Frozenset renaming updateFrom->mL,newClass->mO
open PySem.PassesOwn renaming never->lF
open PySem.SeqAt.RcNeAt renaming lists_lengths->mM,tuples->oi,lists->oq
open PySem.EqNone renaming eq_none_none->mP,eq_none_bool->mQ,eq_bool_none->mR,ne_none_none->mV,ne_none_bool->mW,ne_bool_none->mX,eq_none_int->m4,eq_none_str->m5,eq_int_none->m6,eq_str_none->m8,ne_none_int->ng,ne_none_str->nh,ne_int_none->ni,ne_str_none->nt
open PySem.EqMixed renaming eq_bool_str->mS,eq_str_bool->mT,ne_bool_str->mY,ne_str_bool->mZ,eq_int_str->m7,eq_str_int->m9,ne_int_str->nq,ne_str_int->nv
open PySem.Value renaming isStrOf->lT,isInt->my
open PySem.SeqAt.RcAt renaming lists_lengths->ny,tuples->ox,lists->oB
open PySem.Pv renaming boot_tuple->l7,boot_list->mm,boot_int->mH
open PySem.Builtin.Range renaming rangeSize->nD
open PyProof.Rows.IsTup renaming new->jA
open PySem.Str renaming ofString->mj
open List.Pairwise renaming sublist->nL
open Prod.mk renaming inj->mx
open PySem.Heap.IsSliceOf renaming new->oj
open PySem.W.WShape renaming has->mI
open PySem.Within renaming cons->ot
open List.Sublist renaming refl->oA
open PySem.Heap.DictOf renaming new->oE
def ah:=@if_pos
def aO:=@decide_eq_true
def ai:=@if_neg
def aU:=@decide_eq_false
def bc:=@decide_eq_true_eq
def ao:=@absurd
def bC:=@of_decide_eq_true
def aX:=@congrArg
set_option Elab.async false
set_option linter.all false
namespace L5
open PySem PySem.W
noncomputable def pick(l:List Obj):Nat->List Addr->List Obj:=
 @mJ Obj (λ_=>Nat->List Addr->List Obj) (λ_ _=>[])
  (λo _ ih i as=>@mJ Addr (λ_=>List Obj) [] (λa r _=>@jB (λ_=>List Obj) (ih (Nat.succ i) as) (o::ih (Nat.succ i) r) (fU a i)) as) l
theorem Gv(i:Nat)(as:List Addr):pick [] i as=[]:=rfl
theorem JA(o:Obj)(l:List Obj)(i:Nat)(r:List Addr):pick (o::l) i (i::r)=o::pick l (i+1) r:=by show @jB (λ_=>List Obj) _ _ (fU i i)=_;rw[Nat.beq_refl];rfl
theorem JB(o:Obj)(l:List Obj)(i a:Nat)(r:List Addr)(h:a≠i):pick (o::l) i (a::r)=pick l (i+1) (a::r):=by
 show @jB (λ_=>List Obj) _ _ (fU a i)=_;have:fU a i=false:=by
  cases q:fU a i with
  |false=>rfl
  |true=>exact ao (Nat.eq_of_beq_eq_true q) h
 rw[this];rfl
theorem Bs:∀(l:List Obj) (i:Nat) (as:List Addr),(pick l i as).length=as.length->∀j (hj:j<as.length),∃b,as[j]=i+b/\l[b]?=(pick l i as)[j]?
 |[],i,as,h,j,hj=>by rw[Gv]at h;simp at h;omega
 |o::l,i,[],h,j,hj=>by simp at hj
 |o::l,i,a::r,h,j,hj=>by
  by_cases q:a=i
  ·subst q;rw[JA]at h ⊢;cases j with
   |zero=>exact⟨0,rfl,rfl⟩
   |succ j=>obtain⟨b,e1,e2⟩:=Bs l (a+1) r (by simpa using h) j (by simpa using hj);exact⟨b+1,by rw[List.getElem_cons_succ,e1];exact ku a 1 b,by simpa using e2⟩
  ·rw[JB _ _ _ _ _ q]at h ⊢;obtain⟨b,e1,e2⟩:=Bs l (i+1) (a::r) h j hj;exact⟨b+1,by rw[e1];exact ku i 1 b,by simpa using e2⟩
def live(o:Obj):Bool:=match o with|⟨_,_,.freed,_⟩=>false|_=>true
theorem JC{h:Heap}{as:List Addr}{K:Frag}(e:as=K.map (·.1))(x:(pick h.objs.toList 0 as,K.all λp=>live p.2)=(K.map (·.2),true)):K.In h:=by
 obtain⟨x1,x2⟩:=mx x;refine Frag.in_of e (kH λj=>?_);rw[aY,aY];by_cases hj:j<as.length
 ·have hl:(pick h.objs.toList 0 as).length=as.length:=by rw[x1,e,ag,ag]
  obtain⟨b,e1,e2⟩:=Bs _ _ _ hl j hj;have hk:j<K.length:=by rw[e,ag]at hj;exact hj
  rw[aQ hj,aQ hk,dX,dX,e1,eJ];have e3:h.objs[b]?=some (K[j].2):=by rw[<-bO,e2,x1,aY,aQ hk];rfl
  have lv:live K[j].2=true:=aD.mp x2 _ (fG hk);refine aX some ?_;unfold Heap.get?;rw[e3];revert lv;cases K[j].2 with
  |mk c d data sl=>cases data<;>intro lv<;>first|rfl|cases lv
 ·rw[eZ (by omega),eZ (by rw[e,ag]at hj;omega)];rfl
noncomputable def Qf(K:fW->Frag) (as:List Addr) (e:∀P,as=(K P).map (·.1)):Hook:=
 ⟨List Obj×Bool,λs=>(pick s.heap.objs.toList 0 as,true),λw=>((K w.params).map (·.2),(K w.params).all λp=>live p.2),InK K,λw s x=>JC (e w.params) (by
  obtain⟨x1,x2⟩:=mx x;rw[x1,<- x2]),InK.keeps⟩
end L5
section
open PySem PySem.W PyProof.Rows
local macro_rules|`(tactic|o_head ($f:ident $k $as $e))=>`(tactic|o_head ((L5.Qf $k $as (fun _=>by kernel_rfl)):W.Hook))
local macro_rules|`(command|#where)=>do
 let mut r:=#[]
 for n in [43:1556] do
  let x:=Lean.mkIdent (.mkSimple s!"tw{((Lean.Name.mkSimple "hd").str s!"o_{n}").hash}")
  r:=r.push ((<-`(command|noncomputable def $x:ident:=0)).raw.rewriteBottomUp (·.setInfo .none))
 return Lean.mkNullNode r
noncomputable section
namespace PySem.W.Fast
def tw10753947559541409903:=0
def tw16100691501515759841:=0
def tw8600003543474550401:=0
def tw11899693301848689474:=0
def tw2195466600730450949:=0
def tw14335442591911757157:=0
def tw18320319024192761830:=0
def tw6848908100173092071:=0
def tw14575388751658381831:=0
def tw16380965088707415623:=0
def tw16050583679354009896:=0
def tw8169806428440432713:=0
def tw10374632558016547081:=0
def tw938635154573522699:=0
def tw4260957879368936235:=0
def tw1348686238360321804:=0
def tw7774113678449685934:=0
def tw4891155283279915023:=0
def tw280917380089993231:=0
def tw13342595474641073200:=0
def tw15853837366616553680:=0
def tw10772888853195510384:=0
def tw13274997305513706577:=0
def tw861502493610598483:=0
def tw1179633367757178035:=0
def tw13169389602587208947:=0
def tw2255770438638334868:=0
def tw1658382015597488694:=0
def tw2711973275048833399:=0
def tw12620873455715996183:=0
def tw17322059916419148152:=0
def tw8161656369779717402:=0
def tw10257955065651855134:=0
def tw2964640727653848319:=0
def tw7478123994339007903:=0
def tw1296790758570689965:=0
def tw4043706138742882717:=0
def tw11156245012059776263:=0
def tw7860847200639861895:=0
def tw14093639371245587692:=0
def tw15181078141257973585:=0
def tw472026066189085614:=0
def tw4605971472053405522:=0
def tw10294078964567370430:=0
def tw13823908486322433141:=0
def tw14151252239970057569:=0
def tw8387090941293194387:=0
def tw13857218912954019169:=0
def tw9296065175928017463:=0
#where
end PySem.W.Fast
end
set_option maxRecDepth 100000 in
set_option maxHeartbeats 0 in
open_top hd for PySem.Challenge.rw_tellworld_k10_whole_worlds_let_by
end
set_option maxRecDepth 100000
namespace L2
open PySem PySem.Spec PyProof.Rows
abbrev Key:=Sum Int Str
def zr:Key->aa->Bool
 |.inl k,v=>my k v
 |.inr x,v=>lT x v
def Qg(w:aq):Key->Int
 |.inl k=>hashInt k
 |.inr x=>hashStr w x
theorem pN:∀{k:Key} {v:aa},zr k v=true->(∃i t,k=Sum.inl i/\v=Value.int i t)\/(∃x t,k=Sum.inr x/\v=Value.str x t)
 |.inl i,v,h=>by obtain⟨t,e⟩:=Value.isInt_shape (k:=i) (v:=v) h;exact .inl ⟨i,t,rfl,e⟩
 |.inr x,v,h=>by obtain⟨t,e⟩:=Value.isStrOf_shape (x:=x) (v:=v) h;exact .inr ⟨x,t,rfl,e⟩
theorem Fn(i:Int)(t:Tok):zr (.inl i) (.int i t)=true:=by simp[zr,my]
theorem Fo(x:Str)(t:Tok):zr (.inr x) (.str x t)=true:=by simp[zr,lT]
theorem My(a b:Int):decide ((Sum.inl a:Key)=Sum.inl b)=(a==b):=by
 by_cases e:a=b
 ·subst e;simp
 ·have h:¬(Sum.inl a:Key)=Sum.inl b:=λq=>e (Sum.inl.inj q);rw[aU h];exact(beq_eq_false_iff_ne.mpr e).symm
theorem Mz(a b:Str):decide ((Sum.inr a:Key)=Sum.inr b)=decide (a=b):=by
 by_cases e:a=b
 ·subst e;simp
 ·have h:¬(Sum.inr a:Key)=Sum.inr b:=λq=>e (gR q);rw[aU h,aU e]
theorem MA(a:Int)(b:Str):decide ((Sum.inl a:Key)=Sum.inr b)=false:=aU (λq=>nomatch q)
theorem MB(a:Str)(b:Int):decide ((Sum.inr a:Key)=Sum.inl b)=false:=aU (λq=>nomatch q)
def o7(prog:ar)(w:aq):lX prog w Key where
 is:=zr
 hash:=Qg w
 inj:=λv a b ha hb=>by
  rcases pN ha with ⟨i,t,rfl,rfl⟩|⟨x,t,rfl,rfl⟩
  ·rcases pN hb with ⟨j,u,rfl,e⟩|⟨y,u,rfl,e⟩
   ·injection e with e1 _;rw[e1]
   ·exact nomatch e
  ·rcases pN hb with ⟨j,u,rfl,e⟩|⟨y,u,rfl,e⟩
   ·exact nomatch e
   ·injection e with e1 _;rw[e1]
 byValue:=λk v h=>by rcases pN h with ⟨i,t,rfl,rfl⟩|⟨x,t,rfl,rfl⟩<;>rfl
 pyHash:=λhv h=>by
  rcases pN hv with ⟨i,t,rfl,rfl⟩|⟨x,t,rfl,rfl⟩
  ·exact wpAny_pyHash_int h
  ·exact wpAny_pyHash_str h
 eqBool:=λhu hv h=>by
  rcases pN hu with ⟨i,t,rfl,rfl⟩|⟨x,t,rfl,rfl⟩
  ·rcases pN hv with ⟨j,u,rfl,rfl⟩|⟨y,u,rfl,rfl⟩
   ·rw[My]at h;exact wpAny_eqBool_int h
   ·rw[MA]at h;exact kx i t y u _ _ _ _ h
  ·rcases pN hv with ⟨j,u,rfl,rfl⟩|⟨y,u,rfl,rfl⟩
   ·rw[MB]at h;exact ky x t j u _ _ _ _ h
   ·rw[Mz]at h;exact wpAny_eqBool_str h
 «strs»:=λk x t v h=>by
  rcases pN h with ⟨i,u,rfl,e⟩|⟨y,u,rfl,e⟩
  ·exact nomatch e
  ·injection e with e1 _;subst e1;cases v<;>rfl
theorem Cg(prog:ar)(w:aq)(i:Int)(t:Tok):(o7 prog w).is (.inl i) (.int i t)=true:=Fn i t
theorem Ci(prog:ar)(w:aq)(x:Str)(t:Tok):(o7 prog w).is (.inr x) (.str x t)=true:=Fo x t
inductive V where
 |non|bl (b:Bool)|int (i:Int)|str (x:Str)|byt (b:Array UInt8)|flt (b:UInt64)|ref (a:Addr)|ty (n:String)
 deriving DecidableEq
def RelV:V->aa->Prop
 |.non,u=>u=Value.none
 |.bl b,u=>u=Value.bool b
 |.int i,u=>∃t,u=Value.int i t
 |.str x,u=>∃t,u=Value.str x t
 |.byt b,u=>∃t,u=Value.bytes b t
 |.flt b,u=>∃t,u=Value.float b t
 |.ref a,u=>u=Value.ref a
 |.ty n,u=>u=Value.type n
abbrev Vals:List V->List aa->Prop:=eQ RelV
variable{us:List aa}
theorem Vals.length{xs:List V}(r:Vals xs us):xs.length=us.length:=i4 r
theorem Vals.get:∀{xs:List V} {us:List aa} {i:Nat} {x:V},Vals xs us->xs[i]?=some x->∃u,us[i]?=some u/\RelV x u
 |_,_,_,_,.nil,e=>by simp at e
 |_,_,0,_,.cons r _,e=>by simp at e;subst e;exact⟨_,rfl,r⟩
 |_,_,i+1,x,.cons _ t,e=>by obtain⟨u,h1,h2⟩:=Vals.get (i:=i) (x:=x) t (by simpa using e);exact⟨u,by simpa using h1,h2⟩
variable{u:aa}
theorem Vals.set{x:V}(r:RelV x u):∀{xs:List V} {us:List aa} (i:Nat),Vals xs us->Vals (xs.set i x) (us.set i u)
 |_,_,_,.nil=>.nil
 |_,_,0,.cons _ t=>.cons r t
 |_,_,i+1,.cons q t=>.cons q (Vals.set r i t)
theorem Vals.append:∀{xs ys:List V} {us ws:List aa},Vals xs us->Vals ys ws->Vals (xs++ys) (us++ws)
 |_,_,_,_,.nil,s=>s
 |_,_,_,_,.cons r t,s=>.cons r (Vals.append t s)
theorem Vals.take:∀{xs:List V} {us:List aa} (n:Nat),Vals xs us->Vals (xs.take n) (us.take n)
 |_,_,0,_=>.nil
 |_,_,_+1,.nil=>.nil
 |_,_,n+1,.cons r t=>.cons r (Vals.take n t)
theorem Vals.drop:∀{xs:List V} {us:List aa} (n:Nat),Vals xs us->Vals (xs.drop n) (us.drop n)
 |_,_,0,r=>r
 |_,_,_+1,.nil=>.nil
 |_,_,n+1,.cons _ t=>Vals.drop n t
def wI:Option V->Option aa->Prop
 |some v,some u=>RelV v u
 |none,none=>True
 |_,_=>False
def KV{κ:Type}:List (κ×V)->List (κ×aa)->Prop:=eQ λ(p:κ×V) (q:κ×aa)=>p.1=q.1/\RelV p.2 q.2
def kV:Key->V
 |.inl i=>.int i
 |.inr x=>.str x
inductive HO where
 |lst (xs:List V)
 |tup (xs:List V)
 |dK (kvs:List (Key×V))|dT (kvs:List (List Key×V))
 |set (S:Int->Bool) (n:Nat)
 |ins (C dx:Addr) (fs:List (Str×V))
 |own (x:Addr)
 |xd (fs:List (Str×V))
 |met (f x:Addr)
 |rng (lo hi:Int)
 |frz (o:Obj) (u:HO)
 |tbl (ps:Array aa)
 |ext (φ:Heap->Prop)
abbrev Hp:=Addr->Option HO
def upd(H:Hp)(a:Addr)(o:HO):Hp:=λb=>if b=a then some o else H b
variable{a:Addr}{o:HO}
theorem oZ{H:Hp}:upd H a o a=some o:=by unfold upd;rw[ah rfl]
variable{b:Addr}
theorem o3{H:Hp}(h:b≠a):upd H a o b=H b:=by unfold upd;rw[ai h]
theorem Qh{H:Hp}{u:HO}(h:H a=some o)(h':H b=some u)(d:o≠u):a≠b:=by intro e;subst e;rw[h]at h';exact d (bW h')
theorem ql{H:Hp}(h:H a=some o)(h':H b=none):a≠b:=by intro e;subst e;rw[h]at h';cases h'
section
variable(P:ar)(w:aq)
def p9(H:Hp)(h:Heap)(a:Addr):HO->Prop
 |.lst xs=>xs.length<=aB/\∃(its:List aa) (n:Nat),Vals xs its/\h.get? a=some { cls:=.type "list", data:=.seq its.toArray n }
 |.tup xs=>xs.length<=aB/\∃its:List aa,Vals xs its/\eW h a its.toArray
 |.dK kvs=>kvs.length<=aB/\(a==cG)=false/\∃vs,KV kvs vs/\h.DictOf (o7 P w) a vs
 |.dT kvs=>kvs.length<=aB/\(a==cG)=false/\∃xs:List (List Key×Addr×aa),
   eQ (λ(p:List Key×V) (q:List Key×Addr×aa)=>p.1=q.1/\H q.2.1=some (.tup (p.1.map kV))/\RelV p.2 q.2.2) kvs xs/\
   ∃o es ep,h.get? a=some o/\o.ExactDict/\o.data=.dict es ep/\es.toList=xs.map (entryOfKey (tupleKind (o7 P w)))/\(xs.map (·.1)).Nodup
 |.set S n=>h.SetOf (intKind P w) a S n
 |.ins C dx fs=>H dx=some (.own a)/\fs.length<=1000/\dx≠a/\h.get? a=some (dG C dx)/\
   ∃mA,h.Ns1 dx mA/\(∀f,wI (fs.lookup f) (mA f))/\jb mA (fs.map (·.1))
 |.own _=>∃o,h.get? a=some o
 |.xd fs=>∃mA,h.Ns1 a mA/\∀f,wI (fs.lookup f) (mA f)
 |.rng lo hi=>∃t u v,h.get? a=some { cls:=.type "range", data:=.fields #[.int lo t,.int hi u,.int 1 v] }
 |.frz o u=>h.get? a=some o/\p9 H h a u
 |.tbl ps=>h.get? a=some { cls:=.none,data:=.fields ps }
 |.met f x=>h.get? a=some (jk (.ref f) (.ref x))
 |.ext φ=>φ h/\(∃o,h.get? a=some o)/\∀h1 h2:Heap,φ h1->(∀o,h1.get? a=some o->h2.get? a=some o)->φ h2
def HOk(H:Hp)(h:Heap):Prop:=∀a o,H a=some o->p9 P w H h a o
end
section
variable{P:ar}{w:aq}{H H':Hp}{h h':Heap}{a:Addr}{o:HO}
theorem p9.lt(x:p9 P w H h a o):a<h.objs.size:=by
 cases o with
 |lst xs=>obtain⟨_,_,_,_,e⟩:=x;exact aJ e
 |tup xs=>obtain⟨_,_,_,p⟩:=x;exact p.lt
 |dK kvs=>obtain⟨_,_,_,_,o,_,_,e,_⟩:=x;exact aJ e
 |dT kvs=>obtain⟨_,_,_,_,o,_,_,e,_⟩:=x;exact aJ e
 |set S n=>obtain⟨o,_,_,_,e,_⟩:=x;exact aJ e
 |ins C dx fs=>obtain⟨_,_,_,e,_⟩:=x;exact aJ e
 |own y=>obtain⟨_,e⟩:=x;exact aJ e
 |xd fs=>obtain⟨_,⟨_,_,_,e,_⟩,_⟩:=x;exact aJ e
 |rng lo hi=>obtain⟨_,_,_,e⟩:=x;exact aJ e
 |frz ob u=>obtain⟨e,_⟩:=x;exact aJ e
 |tbl ps=>exact aJ (show h.get? a=some _ from x)
 |met f y=>exact aJ (show h.get? a=some _ from x)
 |ext φ=>obtain⟨_,⟨_,e⟩,_⟩:=x;exact aJ e
theorem Paired.mapP{α β:Type}{F G:α->β->Prop}:∀{l₁:List α} {l₂:List β},eQ F l₁ l₂->(∀a b,F a b->G a b)->eQ G l₁ l₂
 |_,_,.nil,_=>.nil
 |_,_,.cons r t,f=>.cons (f _ _ r) (Paired.mapP t f)
theorem p9.stay(x:p9 P w H h a o)(k:∀b u,(b=a\/H b=some (.own a))->h.get? b=some u->h'.get? b=some u)
  (ho:∀b,H b=some (.own a)->H' b=some (.own a)) (ht:∀b xs,H b=some (.tup xs)->H' b=some (.tup xs)):p9 P w H' h' a o:=by
 induction o with
 |lst xs=>obtain⟨z,its,n,r,e⟩:=x;exact⟨z,its,n,r,k _ _ (.inl rfl) e⟩
 |tup xs=>obtain⟨z,its,r,ob,e,c⟩:=x;exact⟨z,its,r,ob,k _ _ (.inl rfl) e,c⟩
 |dK kvs=>obtain⟨z,y,vs,r,ob,es,ep,e,c⟩:=x;exact⟨z,y,vs,r,ob,es,ep,k _ _ (.inl rfl) e,c⟩
 |dT kvs=>obtain⟨z,y,xs,r,ob,es,ep,e,c⟩:=x;exact⟨z,y,xs,Paired.mapP r λp q z=>⟨z.1,ht _ _ z.2.1,z.2.2⟩,ob,es,ep,k _ _ (.inl rfl) e,c⟩
 |set S n=>obtain⟨ob,es,ep,t,e,c⟩:=x;exact⟨ob,es,ep,t,k _ _ (.inl rfl) e,c⟩
 |ins C dx fs=>obtain⟨d,z,ne,e,mA,⟨od,es,ep,e2,c⟩,r⟩:=x;exact⟨ho _ d,z,ne,k _ _ (.inl rfl) e,mA,⟨od,es,ep,k _ _ (.inr d) e2,c⟩,r⟩
 |own y=>obtain⟨ob,e⟩:=x;exact⟨ob,k _ _ (.inl rfl) e⟩
 |xd fs=>obtain⟨mA,⟨od,es,ep,e,c⟩,r⟩:=x;exact⟨mA,⟨od,es,ep,k _ _ (.inl rfl) e,c⟩,r⟩
 |rng lo hi=>obtain⟨t,u,v,e⟩:=x;exact⟨t,u,v,k _ _ (.inl rfl) e⟩
 |frz ob u ih=>obtain⟨e,q⟩:=x;exact⟨k _ _ (.inl rfl) e,ih q⟩
 |tbl ps=>have e:h.get? a=some { cls:=.none,data:=.fields ps }:=x;show h'.get? a=some { cls:=.none,data:=.fields ps };exact k a _ (.inl rfl) e
 |met f y=>have e:h.get? a=some (jk (.ref f) (.ref y)):=x;show h'.get? a=some (jk (.ref f) (.ref y));exact k a _ (.inl rfl) e
 |ext φ=>obtain⟨p,⟨o,e⟩,st⟩:=x;exact⟨st _ _ p λo q=>k _ _ (.inl rfl) q,⟨o,k _ _ (.inl rfl) e⟩,st⟩
theorem HOk.lt(x:HOk P w H h)(e:H a=some o):a<h.objs.size:=(x a o e).lt
theorem HOk.fresh(x:HOk P w H h)(e:h.objs.size<=a):H a=none:=by
 cases q:H a with
 |none=>rfl
 |some u=>exact ao (bQ (x.lt q) e) (dE _)
theorem HOk.kept(x:HOk P w H h)(k:∀b u,h.get? b=some u->h'.get? b=some u):HOk P w H h':=λa o e=>
 (x a o e).stay (λb u _ q=>k b u q) (λ_ q=>q) λ_ _ q=>q
theorem HOk.laid(x:HOk P w H h)(k:∀b u,h.get? b=some u->h'.get? b=some u)(hp:h.objs.size<=a)(new:p9 P w (upd H a o) h' a o):HOk P w (upd H a o) h':=λb u e=>by
 have hn:=x.fresh hp;by_cases hb:b=a
 ·subst hb;rw[oZ]at e;cases e;exact new
 ·rw[o3 hb]at e;exact(x b u e).stay (λc v _ q=>k c v q) (λc q=>by rw[o3 (ql q hn)];exact q) λc xs q=>by rw[o3 (ql q hn)];exact q
end
def Rd(H:Hp)(a:Addr)(u:HO):Prop:=H a=some u\/∃o,H a=some (.frz o u)
theorem Rd.ok{P:ar}{w:aq}{H:Hp}{h:Heap}{u:HO}(r:Rd H a u)(x:HOk P w H h):p9 P w H h a u:=by
 rcases r with r|⟨o,r⟩
 ·exact x a u r
 ·obtain⟨_,q⟩:=x a _ r;exact q
def Mut:Option HO->Prop
 |some (.lst _)=>True
 |some (.dK _)=>True
 |some (.dT _)=>True
 |some (.set _ _)=>True
 |some (.ins _ _ _)=>True
 |some (.ext _)=>True
 |_=>False
section
variable{P:ar}{w:aq}{H:Hp}{h h':Heap}{x e:Addr}{o':HO}
theorem HOk.write(ok:HOk P w H h)(mu:Mut (H x))(he:e=x\/H e=some (.own x))(k:∀b u,b≠e->h.get? b=some u->h'.get? b=some u)(heo:∃u,h'.get? e=some u)
  (new:p9 P w (upd H x o') h' x o'):HOk P w (upd H x o') h':=λb u q=>by
 have nown:∀c y,H c=some (.own y)->c≠x:=λc y r z=>by subst z;rw[r]at mu;exact mu
 have ntup:∀c xs,H c=some (.tup xs)->c≠x:=λc xs r z=>by subst z;rw[r]at mu;exact mu
 by_cases hb:b=x
 ·subst hb;rw[oZ]at q;cases q;exact new
 ·rw[o3 hb]at q;by_cases hbe:b=e
  ·have q':H b=some (.own x):=by
    rcases he with z|z
    ·exact ao (hbe.trans z) hb
    ·rw[hbe];exact z
   rw[q]at q';cases q';obtain⟨v,hv⟩:=heo;exact⟨v,by rw[hbe];exact hv⟩
  ·refine(ok b u q).stay (λc v hc r=>k c v ?_ r) (λc r=>by rw[o3 (nown c b r)];exact r) λc xs r=>by rw[o3 (ntup c xs r)];exact r
   rcases hc with rfl|hc
   ·exact hbe
   ·rintro rfl;rcases he with z|z
    ·exact nown c b hc z
    ·rw[hc]at z;cases z;exact hb rfl
end
structure Un(fs ex:List Addr)(H H':Hp)(h h':Heap):Prop where
 keep:∀b o,h.get? b=some o->H b=none->b∉fs->b∉ex->h'.get? b=some o
 slot:∀b o,h.get? b=some o->H b=none->b∈fs->b∉ex->∃sl,h'.get? b=some { o with slots:=sl }
 free:∀b o,h.get? b=some o->H b=none->b∉ex->H' b=none
 there:∀b o,h.get? b=some o->b∉ex->∃o',h'.get? b=some o'
 tups:∀b xs,H b=some (.tup xs)->H' b=some (.tup xs)
 frzs:∀b o u,H b=some (.frz o u)->H' b=some (.frz o u)
 tbls:∀b ps,H b=some (.tbl ps)->∃more,H' b=some (.tbl (ps++more))
section
variable{fs fs' ex ex':List Addr}{H H1 H2:Hp}{h h1 h2 h':Heap}{a x e:Addr}{o:HO}
theorem Un.any(u:Un fs ex H H1 h h1){ob:Obj}(q:h.get? b=some ob)(n:H b=none)(hx:b∉ex):∃sl,h1.get? b=some { ob with slots:=sl }:=by
 by_cases hb:b∈fs
 ·exact u.slot b ob q n hb hx
 ·exact⟨ob.slots,u.keep b ob q n hb hx⟩
theorem Un.kept(k:∀b u,h.get? b=some u->h'.get? b=some u):Un fs ex H H h h':=
 ⟨λb ob q _ _ _=>k b ob q,λb ob q _ _ _=>⟨ob.slots,k b ob q⟩,λ_ _ _ n _=>n,λb ob q _=>⟨ob,k b ob q⟩,λ_ _ q=>q,λ_ _ _ q=>q,λ_ ps q=>⟨#[],by rw[q];simp⟩⟩
theorem Un.refl:Un fs ex H H h h:=Un.kept λ_ _ q=>q
theorem Un.laid(k:∀b u,h.get? b=some u->h'.get? b=some u)(hp:h.objs.size<=a)(hn:H a=none):Un fs ex H (upd H a o) h h' where
 keep:=λb u q _ _ _=>k b u q
 slot:=λb u q _ _ _=>⟨u.slots,k b u q⟩
 free:=λb u q n _=>by rw[o3 (aW (bQ (aJ q) hp))];exact n
 there:=λb u q _=>⟨u,k b u q⟩
 tups:=λb xs q=>by rw[o3 (ql q hn)];exact q
 frzs:=λb u xs q=>by rw[o3 (ql q hn)];exact q
 tbls:=λb ps q=>⟨#[],by rw[o3 (ql q hn),q];simp⟩
theorem Un.write(mu:Mut (H x))(he:e=x\/H e=some (.own x))(k:∀b u,b≠e->h.get? b=some u->h'.get? b=some u)(heo:∃u,h'.get? e=some u):Un fs ex H (upd H x o) h h':=by
 have hx:∀b,H b=none->b≠x:=λb n z=>by subst z;rw[n]at mu;exact mu
 have hb:∀b,H b=none->b≠e:=λb n z=>by
  subst z;rcases he with r|r
  ·exact hx b n r
  ·rw[n]at r;cases r
 have hm:∀b u,H b=some u->¬Mut (some u)->b≠x:=λb u q nm z=>by subst z;rw[q]at mu;exact nm mu
 refine⟨λb u q n _ _=>k b u (hb b n) q,λb u q n _ _=>⟨u.slots,k b u (hb b n) q⟩,λb u q n _=>by rw[o3 (hx b n)];exact n,λb u q _=>?_,
  λb xs q=>by rw[o3 (hm b _ q λz=>z)];exact q,λb u xs q=>by rw[o3 (hm b _ q λz=>z)];exact q,λb ps q=>⟨#[],by rw[o3 (hm b _ q λz=>z),q];simp⟩⟩
 by_cases hbe:b=e
 ·subst hbe;exact heo
 ·exact⟨u,k b u hbe q⟩
end
def trk(h:Heap)(H:Hp):List Addr:=(aT h.objs.size).filter λa=>(H a).isSome
def Bt(h:Heap)(H:Hp):Heap:=W.hideAll h (trk h H)
theorem Fp(h:Heap)(H:Hp):(Bt h H).objs.size=h.objs.size:=W.hideAll_size _ _
theorem Gw{h:Heap}{H:Hp}{o:Obj}(e:h.get? b=some o)(n:H b=none):(Bt h H).get? b=some o:=
 ji _ e λhm=>by have q:(H b).isSome=true:=(bu.mp hm).2;rw[n]at q;simp at q
theorem JD{h:Heap}{H:Hp}{o:Obj}(e:(Bt h H).get? b=some o):h.get? b=some o/\H b=none:=by
 have e':h.get? b=some o:=jt (trk h H) e;refine⟨e',?_⟩;cases q:H b with
 |none=>rfl
 |some x=>have hm:b∈trk h H:=bu.mpr ⟨bN.mpr (aJ e'),by simp[q]⟩;have z:(Bt h H).get? b=none:=W.hideAll_none (trk h H) hm;rw[z]at e;cases e
def JE(g h:Heap)(L:Addr):List (Addr×Obj):=(aT h.objs.size).filterMap λa=>if a=L\/(g.get? a).isSome=true then none else (h.get? a).map λo=>(a,o)
def rest(g h:Heap)(L d:Addr):List (Addr×Obj):=(JE g h L).filter λp=>decide (p.1≠d)
structure Mod(K:ak)(mg:Str->Option aa)(base:Heap):Prop where
 kin:K.In base
 glob:base.Ns aK mg
 blt:∃mb,base.Ns builtinsNs mb/\∀x:Str,x≠"__name__" -> mb x=cO x
 nolimit:base.NoLimit
structure Cx where
 prog:ar
 w:aq
 K:ak
 mg:Str->Option aa
 base:Heap
 A:aw
 N:List Str
 s₀:ae
 H₀:Hp
 env:Env
 outer:List Env
 stack:List Env
 ex:List Addr
 fn:Str->Bool
 calm:Bool
 pn:List (Addr×Obj)
 xe:aa->ae->Prop
def frs(l:List Env):List Addr:=l.filterMap (·.frame)
abbrev Cx.fs(X:Cx):List Addr:=frs X.outer
def Vis(sc:bZ)(x:Str):Prop:=sc.names.lookup x=some .local\/sc.names.lookup x=some .cell\/sc.names.lookup x=some .free
def Loc(sc:bZ)(x:Str):Prop:=sc.names.lookup x=some .local\/sc.names.lookup x=some .cell
def Look(env:Env)(h:Heap)(m:Str->Option aa)(x:Str)(u:aa):Prop:=
 (env.kindOf x=some .local/\m x=some u)\/((env.kindOf x=some .cell\/env.kindOf x=some .free)/\∃c,env.cells.lookup x=some c/\h.IsCell c (some u))
structure Cx.Ok(X:Cx):Prop where
 mod:Mod X.K X.mg X.base
 kind:X.env.scope.kind=.function
 glob:X.env.globals=aK
 blt:X.env.builtins=builtinsNs
 above:X.s₀.heap.objs.size<=X.env.locals
 inj:∀x y c,X.env.cells.lookup x=some c->X.env.cells.lookup y=some c->x=y
 has:∀x,(X.env.kindOf x=some .cell\/X.env.kindOf x=some .free)->∃c,X.env.cells.lookup x=some c
 cab:∀x c,X.fn x=true->X.env.cells.lookup x=some c->X.s₀.heap.objs.size<=c
 hd:X.calm=true->X.A.handled=none
 frames:X.A.frames=some X.stack
 stk:X.stack=X.outer\/(X.stack=X.env::X.outer/\X.env.frame=some X.env.locals)
 exf:∀b∈X.ex,b≠X.env.locals/\∀x c,X.env.cells.lookup x=some c->c≠b
 bs:∀b o,X.base.get? b=some o->X.s₀.heap.get? b=some o/\X.H₀ b=none
 bsz:X.base.objs.size<=X.s₀.heap.objs.size
 noex:∀b o,X.base.get? b=some o->b∉X.ex
 exfs:∀b∈X.ex,b∉X.fs
 funs:X.s₀.heap.FunFrames X.base X.outer
 frf:∀b∈X.fs,X.H₀ b=none
structure Inv(X:Cx)(pins:List (Addr×Obj))(σ:List (Option V))(H:Hp)(s:ae):Prop where
 ok:X.Ok
 os:s.os=X.s₀.os
 bare:cU s.gens
 base:Un X.fs X.ex X.H₀ H X.s₀.heap s.heap
 loc:∃m,s.heap.Ns X.env.locals m/\∀(i:Nat) (x:Str) (v:V),X.N[i]?=some x->σ[i]?=some (some v)->Vis X.env.scope x->∃u,RelV v u/\Look X.env s.heap m x u
 cell:∀x c,X.env.cells.lookup x=some c->∃v,s.heap.IsCell c v
 free:H X.env.locals=none
 freeC:∀x c,X.env.cells.lookup x=some c->H c=none
 pin:∀p∈X.pn++pins,s.heap.get? p.1=some p.2/\H p.1=none/\p.1≠X.env.locals/\p.1∉X.fs/\∀v,p.2.data≠.cell v
 hok:HOk X.prog X.w H s.heap
 len:σ.length=X.N.length
variable{g':Array eA}{t' i j:Nat}{d':Drawn}{ch:List Addr}{it:Addr}{N:List Str}{x:Str}{M:Model}{E:aa->ae->Prop}{s':ae}
section
variable{X:Cx}{pins:List (Addr×Obj)}{σ:List (Option V)}{H H':Hp}{s:ae}{h':Heap}
theorem Cx.Ok.nofr(ok:X.Ok){o:Obj}(e:X.base.get? b=some o):b∉X.fs:=λhb=>by have:=(ok.funs.mem hb).1;rw[e]at this;cases this
theorem Inv.bs(I:Inv X pins σ H s):∀b o,X.base.get? b=some o->s.heap.get? b=some o/\H b=none:=λb o e=>
 ⟨I.base.keep b o (I.ok.bs b o e).1 (I.ok.bs b o e).2 (I.ok.nofr e) (I.ok.noex b o e),I.base.free b o (I.ok.bs b o e).1 (I.ok.bs b o e).2 (I.ok.noex b o e)⟩
theorem Inv.bk(I:Inv X pins σ H s):∀b o,X.base.get? b=some o->s.heap.get? b=some o:=λb o e=>(I.bs b o e).1
theorem Inv.mod(I:Inv X pins σ H s):Mod X.K X.mg X.base:=I.ok.mod
theorem Inv.kIn(I:Inv X pins σ H s):X.K.In s.heap:=I.ok.mod.kin.keeps I.bk
theorem Inv.fr(I:Inv X pins σ H s):∃m,Fr X.base X.env.locals s.heap m:=
 let ⟨m,hn,_⟩:=I.loc
 ⟨m,hn,I.bk,bp I.ok.bsz I.ok.above⟩
theorem Inv.lt(I:Inv X pins σ H s):X.env.locals<s.heap.objs.size:=let ⟨_,hn,_⟩:=I.loc;hn.lt
theorem Inv.sz(I:Inv X pins σ H s):X.s₀.heap.objs.size<=s.heap.objs.size:=bp I.ok.above (gG I.lt)
theorem Inv.nofs(I:Inv X pins σ H s)(h:s.heap.objs.size<=a):a∉X.fs:=λhb=>by obtain⟨_,o,ho,_⟩:=I.ok.funs.mem hb;exact ao (bQ (aJ ho) (bp I.sz h)) (dE _)
theorem Inv.cne(I:Inv X pins σ H s):∀x c,X.env.cells.lookup x=some c->c≠X.env.locals:=λx c e z=>by obtain⟨v,o,ho,hd⟩:=I.cell x c e;obtain⟨m,⟨o',es,ep,ho',hd',_⟩,_⟩:=I.loc;rw[z,ho']at ho;cases ho;rw[hd']at hd;cases hd
theorem Inv.funs(I:Inv X pins σ H s):s.heap.FunFrames X.base X.outer:=by
 have all:∀(l:List Env),(∀b∈frs l,b∈X.fs)->X.s₀.heap.FunFrames X.base l->s.heap.FunFrames X.base l:=by
  intro l
  induction l with
  |nil=>intro _ _;trivial
  |cons env r ih=>intro hs hl;obtain⟨hk,⟨L,o,hf,hn,ho,hd⟩,hr⟩:=hl;have hL:L∈X.fs:=hs L (by unfold frs;rw[cJ,hf];exact aG);obtain⟨sl,e⟩:=I.base.slot L o ho (I.ok.frf L hL) hL λz=>I.ok.exfs L z hL;exact⟨hk,⟨L,_,hf,hn,e,hd⟩,ih (λb hb=>hs b (by unfold frs;rw[cJ,hf];exact aH _ hb)) hr⟩
 exact all X.outer (λ_ hb=>hb) I.ok.funs
theorem Inv.stack(I:Inv X pins σ H s):s.heap.FunFrames X.base X.stack:=by
 rcases I.ok.stk with e|⟨e,hf⟩
 ·rw[e];exact I.funs
 ·rw[e];obtain⟨m,hn,_⟩:=I.loc;refine .cons (by rw[I.ok.kind];decide) hf hn ?_ I.funs;exact Heap.get?_none_of_le (bp I.ok.bsz I.ok.above)
theorem Inv.stkSub(I:Inv X pins σ H s):∀b∈frs X.stack,b∈X.env.locals::X.fs:=λb hb=>by
 rcases I.ok.stk with e|⟨e,hf⟩
 ·rw[e]at hb;exact aH _ hb
 ·rw[e]at hb;unfold frs at hb;rw[cJ,hf]at hb;exact hb
theorem Inv.stkFree(I:Inv X pins σ H s):∀b∈frs X.stack,H b=none:=λb hb=>by
 rcases aP.mp (I.stkSub b hb)with e|hb
 ·rw[e];exact I.free
 ·obtain⟨_,o,ho,_⟩:=I.ok.funs.mem hb;exact I.base.free b o ho (I.ok.frf b hb) λz=>I.ok.exfs b z hb
theorem Inv.step(I:Inv X pins σ H s)
  (hch:∀b∈ch,(b∈X.ex\/X.s₀.heap.objs.size<=b)/\b≠X.env.locals/\(∀x c,X.env.cells.lookup x=some c->c≠b)/\∀p∈X.pn++pins,p.1≠b)
  (keep:∀b o,b≠X.env.locals->b∉X.fs->b∉ch->s.heap.get? b=some o->H b=none->h'.get? b=some o)
  (slot:∀b o,b≠X.env.locals->b∈X.fs->b∉ch->s.heap.get? b=some o->H b=none->∃sl,h'.get? b=some { o with slots:=sl }) (free:∀b o,b∉ch->s.heap.get? b=some o->H b=none->H' b=none)
  (there:∀b o,b∉ch->s.heap.get? b=some o->∃o',h'.get? b=some o')
  (tups:∀b xs,H b=some (.tup xs)->H' b=some (.tup xs)) (frzs:∀b o u,H b=some (.frz o u)->H' b=some (.frz o u)) (tbls:∀b ps,H b=some (.tbl ps)->∃more,H' b=some (.tbl (ps++more)))
  (ns:∀m,s.heap.Ns X.env.locals m->h'.Ns X.env.locals m) (hok:HOk X.prog X.w H' h') (hg:cU g'):
  Inv X pins σ H' { s with heap:=h',gens:=g',drawn:=d',toks:=t' }:=by
 have neL:∀b o,X.s₀.heap.get? b=some o->b≠X.env.locals:=λb o e=>aW (bQ (aJ e) I.ok.above);have neC:∀b o,X.s₀.heap.get? b=some o->b∉X.ex->b∉ch:=λb o e hx hb=>by
  rcases(hch b hb).1 with z|z
  ·exact hx z
  ·exact ao (bQ (aJ e) z) (dE _)
 have cellK:∀x c,X.env.cells.lookup x=some c->∀v,s.heap.IsCell c v->h'.IsCell c v:=λx c e v ⟨o,ho,hd⟩=>by
  have nch:c∉ch:=λz=>(hch c z).2.2.1 x c e rfl;by_cases hc:c∈X.fs
  ·obtain⟨sl,q⟩:=slot c o (I.cne x c e) hc nch ho (I.freeC x c e);exact⟨_,q,hd⟩
  ·exact⟨o,keep c o (I.cne x c e) hc nch ho (I.freeC x c e),hd⟩
 refine⟨I.ok,I.os,hg,⟨λb o e n hb hx=>?_,λb o e n hb hx=>?_,λb o e n hx=>?_,λb o e hx=>?_,λb xs e=>tups b xs (I.base.tups b xs e),λb o xs e=>frzs b o xs (I.base.frzs b o xs e),λb ps e=>?_⟩,?_,λx c e=>?_,?_,λx c e=>?_,λp hp=>?_,hok,I.len⟩
 ·exact keep b o (neL b o e) hb (neC b o e hx) (I.base.keep b o e n hb hx) (I.base.free b o e n hx)
 ·obtain⟨sl,e1⟩:=I.base.slot b o e n hb hx;obtain⟨sl',e2⟩:=slot b _ (neL b o e) hb (neC b o e hx) e1 (I.base.free b o e n hx);exact⟨sl',e2⟩
 ·obtain⟨o',e1⟩:=I.base.there b o e hx;exact free b o' (neC b o e hx) e1 (I.base.free b o e n hx)
 ·obtain⟨o',e1⟩:=I.base.there b o e hx;exact there b o' (neC b o e hx) e1
 ·obtain⟨m1,e1⟩:=I.base.tbls b ps e;obtain⟨m2,e2⟩:=tbls b _ e1;exact⟨m1++m2,by rw[e2,Array.append_assoc]⟩
 ·obtain⟨m,hn,hl⟩:=I.loc;refine⟨m,ns m hn,λi x v e1 e2 e3=>?_⟩;obtain⟨u,r,l⟩:=hl i x v e1 e2 e3;refine⟨u,r,?_⟩;rcases l with l|⟨k,c,e,z⟩
  ·exact .inl l
  ·exact .inr ⟨k,c,e,cellK x c e _ z⟩
 ·obtain⟨v,z⟩:=I.cell x c e;exact⟨v,cellK x c e v z⟩
 ·obtain⟨m,⟨o,_,_,ho,_⟩,_⟩:=I.loc;exact free _ o (λz=>(hch _ z).2.1 rfl) ho I.free
 ·obtain⟨v,o,ho,hd⟩:=I.cell x c e;exact free c o (λz=>(hch c z).2.2.1 x c e rfl) ho (I.freeC x c e)
 ·obtain⟨e,n,ne,nf,d⟩:=I.pin p hp;have nch:p.1∉ch:=λz=>(hch p.1 z).2.2.2 p hp rfl;exact⟨keep p.1 p.2 ne nf nch e n,free p.1 p.2 nch e n,ne,nf,d⟩
theorem Inv.un(I:Inv X pins σ H s)(u:Un X.fs [] H H' s.heap h')(hok:HOk X.prog X.w H' h'):Inv X pins σ H' { s with heap:=h',toks:=t' }:=by
 obtain⟨m,⟨o,es,ep,ho,r⟩,_⟩:=id I.loc;obtain⟨sl,hL⟩:=u.any ho I.free (by simp);exact I.step (g':=s.gens) (d':=s.drawn) (ch:=[]) (λ_ z=>nomatch z) (λb o _ hb _ e n=>u.keep b o e n hb (by simp)) (λb o _ hb _ e n=>u.slot b o e n hb (by simp)) (λb o _ e n=>u.free b o e n (by simp)) (λb o _ e=>u.there b o e (by simp)) u.tups u.frzs u.tbls (λm' hm=>by
  obtain⟨o',es',ep',ho',r'⟩:=hm;rw[ho]at ho';cases ho';exact⟨_,es',ep',hL,r'⟩) hok I.bare
theorem Inv.call(I:Inv X pins σ H s)(u:Un (frs X.stack) ch H H' s.heap h')(hok:HOk X.prog X.w H' h')(hg:cU g')
  (hch:∀b∈ch,(b∈X.ex\/X.s₀.heap.objs.size<=b)/\b≠X.env.locals/\(∀x c,X.env.cells.lookup x=some c->c≠b)/\∀p∈X.pn++pins,p.1≠b):
  Inv X pins σ H' { s with heap:=h',gens:=g',drawn:=d',toks:=t' }:=by
 obtain⟨m,⟨o,es,ep,ho,r⟩,_⟩:=id I.loc;obtain⟨sl,hL⟩:=u.any ho I.free λz=>(hch _ z).2.1 rfl;exact I.step (ch:=ch) hch (λb o hL hb hc e n=>u.keep b o e n (λz=>(aP.mp (I.stkSub b z)).elim hL hb) hc) (λb o _ _ hc e n=>u.any e n hc) (λb o hc e n=>u.free b o e n hc) (λb o hc e=>u.there b o e hc) u.tups u.frzs u.tbls (λm' hm=>by
  obtain⟨o',es',ep',ho',r'⟩:=hm;rw[ho]at ho';cases ho';exact⟨_,es',ep',hL,r'⟩) hok hg
theorem Inv.turned(I:Inv X pins σ H s)(k:∀b o,b≠it->s.heap.get? b=some o->h'.get? b=some o)(hn:H it=none)(hL:it≠X.env.locals)
  (h1:it∈X.ex\/X.s₀.heap.objs.size<=it) (h2:∀x c,X.env.cells.lookup x=some c->c≠it) (h3:∀p∈X.pn++pins,p.1≠it):Inv X pins σ H { s with heap:=h',toks:=t' }:=by
 have nit:∀b u,H b=some u->b≠it:=λb u e z=>by rw[z,hn]at e;cases e
 refine I.step (g':=s.gens) (d':=s.drawn) (ch:=[it]) (λb hb=>?_) (λb o _ _ hc e _=>k b o (λz=>hc (by simp[z])) e) (λb o _ _ hc e _=>⟨o.slots,k b o (λz=>hc (by simp[z])) e⟩) (λ_ _ _ _ n=>n)
  (λb o hc e=>⟨o,k b o (λz=>hc (by simp[z])) e⟩) (λ_ _ e=>e) (λ_ _ _ e=>e) (λb ps e=>⟨#[],by rw[e];simp⟩) (λm hm=>?_) (λb u e=>?_) I.bare
 ·have e:b=it:=by simpa using hb
  subst e;exact⟨h1,hL,h2,h3⟩
 ·obtain⟨o,es,ep,ho,r⟩:=hm;exact⟨o,es,ep,k _ o (dJ hL) ho,r⟩
 ·refine(I.hok b u e).stay (λc v hc q=>k c v ?_ q) (λ_ q=>q) λ_ _ q=>q;rcases hc with z|z
  ·rw[z];exact nit b u e
  ·exact nit c _ z
theorem Inv.tok(I:Inv X pins σ H s)(t:Nat):Inv X pins σ H { s with toks:=t }:=I.un (h':=s.heap) (t':=t) Un.refl I.hok
theorem Inv.kept(I:Inv X pins σ H s)(k:∀b u,s.heap.get? b=some u->h'.get? b=some u):Inv X pins σ H { s with heap:=h',toks:=t' }:=I.un (Un.kept k) (I.hok.kept k)
theorem Inv.laid(I:Inv X pins σ H s)(k:∀b u,s.heap.get? b=some u->h'.get? b=some u)(hp:s.heap.objs.size<=a)(new:p9 X.prog X.w (upd H a o) h' a o):
  Inv X pins σ (upd H a o) { s with heap:=h',toks:=t' }:=I.un (Un.laid k hp (I.hok.fresh hp)) (I.hok.laid k hp new)
theorem Inv.write{x e:Addr}(I:Inv X pins σ H s)(mu:Mut (H x))(he:e=x\/H e=some (.own x))(k:∀b u,b≠e->s.heap.get? b=some u->h'.get? b=some u)(heo:∃u,h'.get? e=some u)
  (new:p9 X.prog X.w (upd H x o) h' x o):Inv X pins σ (upd H x o) { s with heap:=h',toks:=t' }:=I.un (Un.write mu he k heo) (I.hok.write mu he k heo new)
theorem Inv.weak{σ':List (Option V)}(I:Inv X pins σ H s)(hl:σ'.length=σ.length)(w:∀(i:Nat) v,σ'[i]?=some (some v)->σ[i]?=some (some v)):Inv X pins σ' H s:=
 ⟨I.ok,I.os,I.bare,I.base,let ⟨m,hn,hl'⟩:=I.loc;⟨m,hn,λi x v e1 e2 e3=>hl' i x v e1 (w i v e2) e3⟩,I.cell,I.free,I.freeC,I.pin,I.hok,hl.trans I.len⟩
theorem Inv.pins_of{pins':List (Addr×Obj)}(I:Inv X pins σ H s)(h:∀p∈pins',s.heap.get? p.1=some p.2/\H p.1=none/\p.1≠X.env.locals/\p.1∉X.fs/\∀v,p.2.data≠.cell v):Inv X pins' σ H s:=
 ⟨I.ok,I.os,I.bare,I.base,I.loc,I.cell,I.free,I.freeC,λp hp=>(aV.mp hp).elim (λz=>I.pin p (bI _ z)) (h p),I.hok,I.len⟩
theorem Cj(hN:N.Nodup)(a:N[i]?=some x)(b:N[j]?=some x):i=j:=by obtain⟨h1,e1⟩:=br.mp a;obtain⟨h2,e2⟩:=br.mp b;exact(iO hN).mp (e1.trans e2.symm)
theorem Fq{A:aw}{v:V}{Q:Unit->ae->Prop}(I:Inv X pins σ H s)(hN:X.N.Nodup)(hi:X.N[i]?=some x)(hx:Loc X.env.scope x)(r:RelV v u)
  (h:∀s',Inv X pins (σ.set i (some v)) H s'->(∃a,eK a s.heap s'.heap/\(a=X.env.locals\/X.env.cells.lookup x=some a))->Q () s') (hf:X.fn x=true\/X.env.scope.names.lookup x=some .local:=by first|exact .inl rfl|exact .inr rfl|assumption):af M A (storeName X.env x u) Q E s:=by
 obtain⟨m,hn,hl⟩:=id I.loc;have hcls:(X.env.scope.kind==.class||(X.env.scope.kind==.module&&X.env.locals != X.env.globals))=false:=by rw[I.ok.kind];rfl
 have hiσ:i<σ.length:=by rw[I.len];exact(br.mp hi).1
 have cne:=I.cne;have tracked:∀{a:Addr} {h':Heap},(∃o,s.heap.get? a=some o/\H a=none)->eK a s.heap h'->HOk X.prog X.w H h':=λ{a h'} ha hs b ob e=>by
  obtain⟨_,_,hfree⟩:=ha;refine(I.hok b ob e).stay (λc w' hc q=>(hs.2 c ?_).trans q) (λ_ q=>q) λ_ _ q=>q;rintro rfl;rcases hc with rfl|hc
  ·rw[hfree]at e;cases e
  ·rw[hfree]at hc;cases hc
 rcases hx with hk|hk
 ·refine wpAny_storeName_local hk hn (λh' hn' hs=>?_) hcls;obtain⟨oL,_,_,hoL,_⟩:=id hn;refine h _ ⟨I.ok,I.os,I.bare,⟨λb o e n hb hx=>?_,λb o e n hb hx=>?_,I.base.free,λb o e hx=>?_,I.base.tups,I.base.frzs,I.base.tbls⟩,⟨_,hn',λj y v' e1 e2 e3=>?_⟩,λy c e=>?_,I.free,I.freeC,λp hp=>?_,tracked ⟨oL,hoL,I.free⟩ hs,by simpa using I.len⟩ ⟨_,hs,.inl rfl⟩
  ·exact(hs.2 b (aW (bQ (aJ e) I.ok.above))).trans (I.base.keep b o e n hb hx)
  ·obtain⟨sl,e1⟩:=I.base.slot b o e n hb hx;exact⟨sl,(hs.2 b (aW (bQ (aJ e) I.ok.above))).trans e1⟩
  ·obtain⟨o',e1⟩:=I.base.there b o e hx;exact⟨o',(hs.2 b (aW (bQ (aJ e) I.ok.above))).trans e1⟩
  ·by_cases hj:j=i
   ·subst hj;rw[hi]at e1;cases e1;rw[gb hiσ]at e2;cases e2;exact⟨u,r,.inl ⟨hk,by simp⟩⟩
   ·rw[iu (dJ hj)]at e2;obtain⟨u',r',q⟩:=hl j y v' e1 e2 e3;refine⟨u',r',?_⟩;rcases q with ⟨k,e⟩|⟨k,c,e,z⟩
    ·refine .inl ⟨k,?_⟩;have:y≠x:=λe=>hj (Cj hN e1 (e▸hi));simp[this,e]
    ·exact .inr ⟨k,c,e,z.sameBut hs (cne y c e)⟩
  ·obtain⟨w',z⟩:=I.cell y c e;exact⟨w',z.sameBut hs (cne y c e)⟩
  ·obtain⟨e,n,ne,nf,d⟩:=I.pin p hp;exact⟨(hs.2 p.1 ne).trans e,n,ne,nf,d⟩
 ·have hfn:X.fn x=true:=by
   rcases hf with z|z
   ·exact z
   ·rw[z]at hk;cases hk
  obtain⟨c,hc⟩:=I.ok.has x (.inl hk);obtain⟨w',z⟩:=I.cell x c hc;refine wpAny_storeName_cell I.ok.kind hk hc z (λh' hc' hs=>?_);obtain⟨oc,hoc,hocd⟩:=id z;refine h { s with heap:=h' } ⟨I.ok,I.os,I.bare,⟨λb o e n hb hx=>?_,λb o e n hb hx=>?_,I.base.free,λb o e hx=>?_,I.base.tups,I.base.frzs,I.base.tbls⟩,⟨m,hn.sameBut hs (dJ (cne x c hc)),λj y v' e1 e2 e3=>?_⟩,λy c' e=>?_,I.free,I.freeC,λp hp=>?_,tracked ⟨oc,hoc,I.freeC x c hc⟩ hs,by simpa using I.len⟩ ⟨c,hs,.inr hc⟩
  ·exact(hs.2 b (aW (bQ (aJ e) (I.ok.cab x c hfn hc)))).trans (I.base.keep b o e n hb hx)
  ·obtain⟨sl,e1⟩:=I.base.slot b o e n hb hx;exact⟨sl,(hs.2 b (aW (bQ (aJ e) (I.ok.cab x c hfn hc)))).trans e1⟩
  ·obtain⟨o',e1⟩:=I.base.there b o e hx;exact⟨o',(hs.2 b (aW (bQ (aJ e) (I.ok.cab x c hfn hc)))).trans e1⟩
  ·by_cases hj:j=i
   ·subst hj;rw[hi]at e1;cases e1;rw[gb hiσ]at e2;cases e2;exact⟨u,r,.inr ⟨.inl hk,c,hc,hc'⟩⟩
   ·rw[iu (dJ hj)]at e2;obtain⟨u',r',q⟩:=hl j y v' e1 e2 e3;refine⟨u',r',?_⟩;rcases q with q|⟨k,c',e,z'⟩
    ·exact .inl q
    ·refine .inr ⟨k,c',e,z'.sameBut hs ?_⟩;rintro rfl;exact hj (Cj hN e1 (I.ok.inj _ _ _ e hc▸hi))
  ·by_cases hcc:c'=c
   ·subst hcc;exact⟨_,hc'⟩
   ·obtain⟨w2,z2⟩:=I.cell y c' e;exact⟨w2,z2.sameBut hs hcc⟩
  ·obtain⟨e,n,ne,nf,d⟩:=I.pin p hp;refine⟨(hs.2 p.1 ?_).trans e,n,ne,nf,d⟩;intro q;rw[q,hoc]at e;have q':oc=p.2:=bW e;exact d w' (by rw[<-q'];exact hocd)
theorem Ck{A:aw}{v:V}{Q:Unit->ae->Prop}(I:Inv X pins σ H s)(hN:X.N.Nodup)(hi:X.N[i]?=some x)(hx:Loc X.env.scope x)(r:RelV v u)
  (h:∀s',Inv X pins (σ.set i (some v)) H s'->Q () s') (hf:X.fn x=true\/X.env.scope.names.lookup x=some .local:=by first|exact .inl rfl|exact .inr rfl|assumption):af M A (storeName X.env x u) Q E s:=
 Fq I hN hi hx r (λs' I' _=>h s' I') hf
theorem Inv.call'(I:Inv X pins σ H s)(ho:s'.os=s.os)(u:Un (frs X.stack) ch H H' s.heap s'.heap)(hok:HOk X.prog X.w H' s'.heap)(hg:cU s'.gens)
  (hch:∀b∈ch,(b∈X.ex\/X.s₀.heap.objs.size<=b)/\b≠X.env.locals/\(∀x c,X.env.cells.lookup x=some c->c≠b)/\∀p∈X.pn++pins,p.1≠b):Inv X pins σ H' s':=by
 obtain⟨h',g',d',t',o'⟩:=s';have e:o'=s.os:=ho;subst e;exact I.call (g':=g') (t':=t') (d':=d') u hok hg hch
end
abbrev XK:=aa->Option Addr->Hp->Prop
abbrev St:=List (Option V)
abbrev VK:=V->Hp->Prop
abbrev TE:=St->Hp->VK->Prop
abbrev TT:=St->Hp->(Bool->Hp->Prop)->Prop
abbrev TA:=St->Hp->(List V->Hp->Prop)->Prop
structure Ends where
 nx:St->Hp->Prop
 rt:VK
 bk:St->Hp->Prop:=λ_ _=>False
 ct:St->Hp->Prop:=λ_ _=>False
abbrev TS:=Ends->St->Hp->Prop
def EP(X:Cx)(pins:List (Addr×Obj))(σ:St)(Q:VK)(u:aa)(s':ae):Prop:=∃v H',Inv X pins σ H' s'/\RelV v u/\Q v H'
def TP(X:Cx)(pins:List (Addr×Obj))(σ:St)(Q:Bool->Hp->Prop)(b:Bool)(s':ae):Prop:=∃H',Inv X pins σ H' s'/\Q b H'
def AP(X:Cx)(pins:List (Addr×Obj))(σ:St)(Q:List V->Hp->Prop)(us:List aa)(s':ae):Prop:=∃vs H',Inv X pins σ H' s'/\Vals vs us/\Q vs H'
def SP(X:Cx)(pins:List (Addr×Obj))(D:Ends)(f:Flow)(s':ae):Prop:=
 match f with
 |.next=>∃σ' H',Inv X pins σ' H' s'/\D.nx σ' H'
 |.brk=>∃σ' H',Inv X pins σ' H' s'/\D.bk σ' H'
 |.cont=>∃σ' H',Inv X pins σ' H' s'/\D.ct σ' H'
 |.ret u=>∃v σ' H',Inv X pins σ' H' s'/\RelV v u/\D.rt v H'
def PE(X:Cx)(e:Expr)(t:TE):Prop:=
 ∀(pins:List (Addr×Obj)) (s:ae) (σ:St) (H:Hp) (Q:VK),Inv X pins σ H s->t σ H Q->af (model X.prog X.w) X.A (eval e X.env) (EP X pins σ Q) X.xe s
def PT(X:Cx)(e:Expr)(t:TT):Prop:=
 ∀(pins:List (Addr×Obj)) (s:ae) (σ:St) (H:Hp) (Q:Bool->Hp->Prop),Inv X pins σ H s->t σ H Q->af (model X.prog X.w) X.A (isTrue e X.env (eval e X.env)) (TP X pins σ Q) X.xe s
def PW(X:Cx)(e:Expr)(t:TT):Prop:=
 ∀(whole:Sem aa) (pins:List (Addr×Obj)) (s:ae) (σ:St) (H:Hp) (Q:Bool->Hp->Prop),Inv X pins σ H s->t σ H Q->af (model X.prog X.w) X.A (isTrue e X.env whole) (TP X pins σ Q) X.xe s
variable{X:Cx}{e:Expr}
theorem PW.pt{t:TT}(h:PW X e t):PT X e t:=h _
def PA(X:Cx)(es:List Expr)(t:TA):Prop:=
 ∀(pos:Pos) (pins:List (Addr×Obj)) (s:ae) (σ:St) (H:Hp) (Q:List V->Hp->Prop),Inv X pins σ H s->t σ H Q->af (model X.prog X.w) X.A (spliced (aZ pos (az es X.env))) (AP X pins σ Q) X.xe s
def PS(X:Cx)(st:Stmt)(t:TS):Prop:=
 ∀(pins:List (Addr×Obj)) (s:ae) (σ:St) (H:Hp) (D:Ends),Inv X pins σ H s->t D σ H->af (model X.prog X.w) X.A (exec st X.env) (SP X pins D) X.xe s
def PSs(X:Cx)(st:List Stmt)(t:TS):Prop:=
 ∀(pins:List (Addr×Obj)) (s:ae) (σ:St) (H:Hp) (D:Ends),Inv X pins σ H s->t D σ H->af (model X.prog X.w) X.A (execs st X.env) (SP X pins D) X.xe s
theorem thn{α:Type}{t:Sem α}{Q Q':α->ae->Prop}{A:aw}{s:ae}(h:af M A t Q E s)(hQ:∀a s,Q a s->Q' a s):af M A t Q' E s:=bz h hQ λ_ _ x=>x
variable{pins:List (Addr×Obj)}{σ:St}{R:V->V->Hp->Prop}{pos:Pos}{Q:aa->ae->Prop}{op:eB}{t:TE}{c:Expr}
section
variable{X:Cx}
theorem bin{a b:Expr}{ta tb:TE}(ha:PE X a ta)(hb:PE X b tb){s:ae}{H:Hp}(I:Inv X pins σ H s)(h:ta σ H λx H1=>tb σ H1 λy H2=>R x y H2)
  {α:Type} {Q:α->ae->Prop} {f:aa->aa->Sem α}
  (hf:∀v u s2 x y H2,Inv X pins σ H2 s2->RelV x v->RelV y u->R x y H2->af (model X.prog X.w) X.A (f v u) Q X.xe s2):
  af (model X.prog X.w) X.A (eval a X.env) (λv s₁=>af (model X.prog X.w) X.A (eval b X.env) (λu s₂=>af (model X.prog X.w) X.A (f v u) Q X.xe s₂) X.xe s₁) X.xe s:=by
 refine thn (ha pins s σ H _ I h) λv s1 zz=>?_;obtain⟨x,H1,I1,r1,q1⟩:=zz;refine thn (hb pins s1 σ H1 _ I1 q1) λu s2 zz=>?_;obtain⟨y,H2,I2,r2,q2⟩:=zz;exact hf v u s2 x y H2 I2 r1 r2 q2
def vH(i:Nat):TE:=λσ H Q=>∃v,σ[i]?=some (some v)/\Q v H
def tC(v:V):TE:=λ_ H Q=>Q v H
theorem MC(hN:X.N[i]?=some x)(hv:Vis X.env.scope x)(hd:(x==("__debug__" : Str))=false:=by decide)(hcd:(x==("__classdict__" : Str))=false:=by decide):PE X (.Name x pos) (vH i):=by
 intro pins s σ H Q I h;obtain⟨v,e,h⟩:=h;obtain⟨m,hn,hl⟩:=I.loc;obtain⟨u,r,l⟩:=hl i x v hN e hv;have fin:EP X pins σ Q u s:=⟨v,H,I,r,h⟩;rcases l with ⟨hk,hm⟩|⟨hk,c,hc,hcell⟩
 ·exact ju (wpAny_loadName_local I.ok.kind hk hn hm fin) hd
 ·rcases hk with hk|hk
  ·exact ju (wpAny_loadName_cell I.ok.kind hk hc hcell fin) hd
  ·exact ju (wpAny_loadName_free I.ok.kind hk hc hcell fin hcd) hd
theorem Do{i j pos}:PE X (.Constant (.int i) j pos) (tC (.int i)):=λ_ _ _ H _ I h=>wpAny_Constant_int ⟨.int i,H,I.tok _,⟨_,rfl⟩,h⟩
theorem Qi{b j pos}:PE X (.Constant (.bool b) j pos) (tC (.bl b)):=λ_ _ _ H _ I h=>Constant_bool ⟨.bl b,H,I,rfl,h⟩
theorem ME{j pos}:PE X (.Constant .none j pos) (tC .non):=λ_ _ _ H _ I h=>Constant_none ⟨.non,H,I,rfl,h⟩
theorem MF{x j pos}:PE X (.Constant (.str x) j pos) (tC (.str x)):=λ_ _ _ H _ I h=>Calls.Constant_str ⟨.str x,H,I.tok _,⟨_,rfl⟩,h⟩
def Gl(X:Cx)(x:Str):Prop:=X.env.kindOf x=some .globalImplicit
theorem uQ{s:ae}{H:Hp}(I:Inv X pins σ H s)(hg:Gl X x)(hm:X.mg x=some u)(h:Q u s)
  (hd:(x==("__debug__" : Str))=false:=by decide):af (model X.prog X.w) X.A (eval (.Name x pos) X.env) Q E s:=
 jD I.ok.kind hg (Calls.loadGlobal_global (by rw[I.ok.glob];exact I.mod.glob.keeps I.bk) hm h) hd
theorem ye{s:ae}{H:Hp}(I:Inv X pins σ H s)(hg:Gl X x)(hm:X.mg x=none)(hv:cO x=some u)(h:Q u s)
  (hn:x≠"__name__" := by decide) (hd:(x==("__debug__" : Str))=false:=by decide):af (model X.prog X.w) X.A (eval (.Name x pos) X.env) Q E s:=by
 obtain⟨mb,h1,h2⟩:=I.mod.blt;exact jD I.ok.kind hg (Calls.loadGlobal_builtin (by rw[I.ok.glob];exact I.mod.glob.keeps I.bk) hm (by rw[I.ok.blt];exact h1.keeps I.bk) ((h2 x hn).trans hv) h) hd
theorem Eg{v:V}(hg:Gl X x)(hm:X.mg x=some u)(r:RelV v u)(hd:(x==("__debug__" : Str))=false:=by decide):PE X (.Name x pos) (tC v):=
 λ_ _ _ H _ I h=>uQ I hg hm ⟨v,H,I,r,h⟩ hd
theorem JF{v:V}(hg:Gl X x)(hm:X.mg x=none)(hv:cO x=some u)(r:RelV v u)(hn:x≠"__name__" := by decide)(hd:(x==("__debug__" : Str))=false:=by decide):PE X (.Name x pos) (tC v):=
 λ_ _ _ H _ I h=>ye I hg hm hv ⟨v,H,I,r,h⟩ hn hd
variable{a b:Expr}{ta tb:TE}{pos:Pos}
def PC(X:Cx)(op:eB)(a b:Expr)(t:TE):Prop:=
 ∀(pins:List (Addr×Obj)) (s:ae) (σ:St) (H:Hp) (Q:VK),Inv X pins σ H s->t σ H Q->
  af (model X.prog X.w) X.A (eval a X.env) (λv s₁=>af (model X.prog X.w) X.A (eval b X.env) (λu s₂=>af (model X.prog X.w) X.A (aS op v u) (EP X pins σ Q) X.xe s₂) X.xe s₁) X.xe s
def tB(t:TE):TT:=λσ H Q=>t σ H λx H1=>∃c,x=.bl c/\Q c H1
theorem Gx(h:PC X op a b t)(h1:cD op b=false:=by first|exact nobehind _ (by decide) (by decide)|rfl):PT X (.Compare a [op] [b] pos) (tB t):=by intro pins s σ H Q I hw;refine jZ (thn (h pins s σ H _ I hw) λv s1 h1=>thn h1 λu s2 h2=>thn h2 λc s3 zz=>?_) h1;obtain⟨x,H1,I1,r1,q1⟩:=zz;obtain⟨d,rfl,q⟩:=q1;cases r1;exact cz ⟨H1,I1,q⟩
theorem MG(h:PE X e t)(he:∀whole,isTrue e X.env whole=(do let v<-whole;standAt e.pos;holding [v] (truthy v)):=by intro _;rfl):PT X e (tB t):=by intro pins s σ H Q I hw;refine isTrue_plain (thn (h pins s σ H _ I hw) λv s1 zz=>?_) (he _);obtain⟨x,H1,I1,r1,q1⟩:=zz;obtain⟨d,rfl,q⟩:=q1;cases r1;exact cz ⟨H1,I1,q⟩
variable{tA tB':TT}{rest:List Expr}
def Qj(t u:TT):TT:=λσ H Q=>t σ H λc H1=>if c=true then u σ H1 Q else Q false H1
def tOr(t u:TT):TT:=λσ H Q=>t σ H λc H1=>if c=true then Q true H1 else u σ H1 Q
def R8(t:TT):TT:=λσ H Q=>t σ H λc H1=>Q (!c) H1
theorem JG(ha:PT X a tA):PW X (.BoolOp .And [a] pos) tA:=by
 intro wh pins s σ H Q I h;refine isTrue_and (thn (ha pins s σ H Q I h) λc s1 e=>?_);cases c with
 |true=>exact isTrue_and_nil e
 |false=>exact e
theorem MH(ha:PT X a tA):PW X (.BoolOp .Or [a] pos) tA:=by
 intro wh pins s σ H Q I h;refine isTrue_or (thn (ha pins s σ H Q I h) λc s1 e=>?_);cases c with
 |false=>exact isTrue_or_nil e
 |true=>exact e
theorem MI(ha:PT X a tA)(hb:PW X (.BoolOp .And (b::rest) pos) tB'):PW X (.BoolOp .And (a::b::rest) pos) (Qj tA tB'):=by
 intro wh pins s σ H Q I h;refine isTrue_and (thn (ha pins s σ H _ I h) λc s1 zz=>?_);obtain⟨H1,I1,q1⟩:=zz;cases c with
 |true=>exact hb wh pins s1 σ H1 Q I1 q1
 |false=>exact⟨H1,I1,q1⟩
theorem Qk(ha:PT X a tA)(hb:PW X (.BoolOp .Or (b::rest) pos) tB'):PW X (.BoolOp .Or (a::b::rest) pos) (tOr tA tB'):=by
 intro wh pins s σ H Q I h;refine isTrue_or (thn (ha pins s σ H _ I h) λc s1 zz=>?_);obtain⟨H1,I1,q1⟩:=zz;cases c with
 |true=>exact⟨H1,I1,q1⟩
 |false=>exact hb wh pins s1 σ H1 Q I1 q1
theorem MJ(ha:PT X a tA):PT X (.UnaryOp .Not a pos) (R8 tA):=by intro pins s σ H Q I h;exact isTrue_not (ha pins s σ H (λc H1=>Q (!c) H1) I h)
def Ql(ta tb:TE):TE:=λσ H Q=>ta σ H λx H1=>∃c,x=.bl c/\if c=true then tb σ H1 Q else Q (.bl false) H1
def R9(ta tb:TE):TE:=λσ H Q=>ta σ H λx H1=>∃c,x=.bl c/\if c=true then Q (.bl true) H1 else tb σ H1 Q
def Qm(ta:TE):TE:=λσ H Q=>ta σ H λx H1=>∃c,x=.bl c/\Q (.bl (!c)) H1
theorem MK{op}(h:PE X a t):PE X (.BoolOp op [a] pos) t:=λpins s σ H Q I hw=>BoolOp_one (h pins s σ H Q I hw)
theorem ML(ha:PE X a ta)(hb:PE X (.BoolOp .And (b::rest) pos) tb):PE X (.BoolOp .And (a::b::rest) pos) (Ql ta tb):=by
 intro pins s σ H Q I h;refine BoolOp_and (thn (ha pins s σ H _ I h) λv s1 zz=>?_);obtain⟨x,H1,I1,r1,q1⟩:=zz;obtain⟨c,rfl,q1⟩:=q1;cases r1;refine cz ?_;cases c with
 |true=>exact hb pins s1 σ H1 Q I1 q1
 |false=>exact⟨.bl false,H1,I1,rfl,q1⟩
theorem Qn(ha:PE X a ta)(hb:PE X (.BoolOp .Or (b::rest) pos) tb):PE X (.BoolOp .Or (a::b::rest) pos) (R9 ta tb):=by
 intro pins s σ H Q I h;refine BoolOp_or (thn (ha pins s σ H _ I h) λv s1 zz=>?_);obtain⟨x,H1,I1,r1,q1⟩:=zz;obtain⟨c,rfl,q1⟩:=q1;cases r1;refine cz ?_;cases c with
 |false=>exact hb pins s1 σ H1 Q I1 q1
 |true=>exact⟨.bl true,H1,I1,rfl,q1⟩
theorem MM(ha:PE X a ta):PE X (.UnaryOp .Not a pos) (Qm ta):=by intro pins s σ H Q I h;refine UnaryOp_ (thn (ha pins s σ H _ I h) λv s1 zz=>?_);obtain⟨x,H1,I1,r1,q1⟩:=zz;obtain⟨c,rfl,q1⟩:=q1;cases r1;exact not_of (cz ⟨.bl (!c),H1,I1,rfl,q1⟩)
def tIf(t:TT)(ta tb:TE):TE:=λσ H Q=>t σ H λc H1=>if c=true then ta σ H1 Q else tb σ H1 Q
theorem Gy(hc:PT X c tA)(ha:PE X a ta)(hb:PE X b tb):PE X (.IfExp c a b pos) (tIf tA ta tb):=by
 intro pins s σ H Q I h;refine wpAny_IfExp (thn (hc pins s σ H _ I h) λd s1 zz=>?_);obtain⟨H1,I1,q1⟩:=zz;cases d with
 |true=>exact ha pins s1 σ H1 Q I1 q1
 |false=>exact hb pins s1 σ H1 Q I1 q1
end
def SqL(K:ak)(H:Hp)(a:Addr)(xs:List V):Prop:=
 Rd H a (.lst xs)\/
  ∃(o:Obj) (its:Array aa) (n:Nat),K.lookup a=some o/\o.cls=.type "list" /\ o.dict=none/\o.data=.seq its n/\its.size<=aB/\Vals xs its.toList
def SqT(K:ak)(H:Hp)(a:Addr)(xs:List V):Prop:=
 Rd H a (.tup xs)\/
  ∃(o:Obj) (its:Array aa) (n:Nat),K.lookup a=some o/\o.cls=.type "tuple" /\ o.data=.seq its n/\its.size<=aB/\Vals xs its.toList
def Sa:aa->Option V
 |.none=>some .non
 |.bool b=>some (.bl b)
 |.int i _=>some (.int i)
 |.str x _=>some (.str x)
 |.bytes b _=>some (.byt b)
 |.float b _=>some (.flt b)
 |.ref a=>some (.ref a)
 |.type n=>some (.ty n)
 |_=>none
theorem RelV.abs{x:V}(r:RelV x u):Sa u=some x:=by
 cases x with
 |non=>cases r;rfl
 |bl _=>cases r;rfl
 |int _=>obtain⟨t,rfl⟩:=r;rfl
 |str _=>obtain⟨t,rfl⟩:=r;rfl
 |byt _=>obtain⟨t,rfl⟩:=r;rfl
 |flt _=>obtain⟨t,rfl⟩:=r;rfl
 |ref _=>cases r;rfl
 |ty _=>cases r;rfl
variable{y:V}
theorem RelV.inj{x:V}(r:RelV x u)(q:RelV y u):x=y:=bW (r.abs.symm.trans q.abs)
theorem Vals.inj:∀{xs ys:List V} {us:List aa},Vals xs us->Vals ys us->xs=ys
 |_,_,_,.nil,.nil=>rfl
 |_,_,_,.cons r t,.cons r' t'=>by rw[r.inj r',Vals.inj t t']
section
variable{X:Cx}{pins:List (Addr×Obj)}{σ:St}{H:Hp}{s:ae}{a:Addr}{xs ys:List V}
theorem SqL.of{K:ak}(h:H a=some (.lst xs)):SqL K H a xs:=.inl (.inl h)
theorem SqT.of{K:ak}(h:H a=some (.tup xs)):SqT K H a xs:=.inl (.inl h)
theorem Inv.list(I:Inv X pins σ H s)(h:SqL X.K H a xs):∃its:List aa,Vals xs its/\PlainL s.heap a its.toArray/\xs.length<=aB:=by
 rcases h with h|⟨o,its,n,hk,hc,hd,hs,hz,r⟩
 ·obtain⟨z,its,n,r,e⟩:=h.ok I.hok;exact⟨its,r,⟨_,n,e,rfl,rfl,rfl⟩,z⟩
 ·refine⟨its.toList,r,⟨o,n,I.kIn a o hk,hc,hd,by simpa using hs⟩,?_⟩;have e:=r.length;simp only[bP]at e;omega
theorem Inv.tuple(I:Inv X pins σ H s)(h:SqT X.K H a xs):∃its:List aa,Vals xs its/\eW s.heap a its.toArray/\xs.length<=aB:=by
 rcases h with h|⟨o,its,n,hk,hc,hs,hz,r⟩
 ·obtain⟨z,its,r,p⟩:=h.ok I.hok;exact⟨its,r,p,z⟩
 ·refine⟨its.toList,r,⟨o,I.kIn a o hk,hc,n,by simpa using hs⟩,?_⟩;have e:=r.length;simp only[bP]at e;omega
theorem Inv.list_inj(I:Inv X pins σ H s)(h:SqL X.K H a xs)(h':SqL X.K H a ys):xs=ys:=by
 obtain⟨its,r,⟨o,n,e,_,_,d⟩,_⟩:=I.list h;obtain⟨its',r',⟨o',n',e',_,_,d'⟩,_⟩:=I.list h';rw[e]at e';cases e';rw[d]at d';injection d' with d1 _;have:its=its':=by simpa using aX mf d1
 subst this;exact r.inj r'
theorem Inv.tuple_inj(I:Inv X pins σ H s)(h:SqT X.K H a xs)(h':SqT X.K H a ys):xs=ys:=by
 obtain⟨its,r,⟨o,e,_,n,d⟩,_⟩:=I.tuple h;obtain⟨its',r',⟨o',e',_,n',d'⟩,_⟩:=I.tuple h';rw[e]at e';cases e';rw[d]at d';injection d' with d1 _;have:its=its':=by simpa using aX mf d1
 subst this;exact r.inj r'
end
abbrev Cx.wish(X:Cx)(E:aa->ae->Prop):Cx:={ X with xe:=E }
abbrev Cx.nox(X:Cx):Cx:=X.wish λ_ _=>False
theorem Cx.Ok.wish(ok:X.Ok)(E:aa->ae->Prop):(X.wish E).Ok:=
 ⟨ok.mod,ok.kind,ok.glob,ok.blt,ok.above,ok.inj,ok.has,ok.cab,ok.hd,ok.frames,ok.stk,ok.exf,ok.bs,ok.bsz,ok.noex,ok.exfs,ok.funs,ok.frf⟩
theorem Cx.Ok.unwish(ok:(X.wish E).Ok):X.Ok:=
 ⟨ok.mod,ok.kind,ok.glob,ok.blt,ok.above,ok.inj,ok.has,ok.cab,ok.hd,ok.frames,ok.stk,ok.exf,ok.bs,ok.bsz,ok.noex,ok.exfs,ok.funs,ok.frf⟩
section
variable{X:Cx}{pins:List (Addr×Obj)}{σ:St}{H:Hp}{s:ae}{E:aa->ae->Prop}
theorem Inv.wish(I:Inv X pins σ H s)(E:aa->ae->Prop):Inv (X.wish E) pins σ H s:=⟨I.ok.wish E,I.os,I.bare,I.base,I.loc,I.cell,I.free,I.freeC,I.pin,I.hok,I.len⟩
theorem Inv.unwish(I:Inv (X.wish E) pins σ H s):Inv X pins σ H s:=⟨I.ok.unwish,I.os,I.bare,I.base,I.loc,I.cell,I.free,I.freeC,I.pin,I.hok,I.len⟩
theorem SP.unwish{D:Ends}{f:Flow}(h:SP (X.wish E) pins D f s'):SP X pins D f s':=by
 cases f with
 |next=>obtain⟨σ',H',I,q⟩:=h;exact⟨σ',H',I.unwish,q⟩
 |brk=>obtain⟨σ',H',I,q⟩:=h;exact⟨σ',H',I.unwish,q⟩
 |cont=>obtain⟨σ',H',I,q⟩:=h;exact⟨σ',H',I.unwish,q⟩
 |ret u=>obtain⟨v,σ',H',I,r,q⟩:=h;exact⟨v,σ',H',I.unwish,r,q⟩
theorem PSs.nox{st:List Stmt}{t:TS}(h:PSs X.nox st t):PSs X st t:=λpins s σ H D I hw=>
 bz (h pins s σ H D (I.wish _) hw) (λ_ _ q=>q.unwish) λ_ _ z=>bU z
end
section
variable{X:Cx}{st:Stmt}{rest:List Stmt}{t u:TS}{e:Expr}{te:TE}{pos:Pos}
def Qo:TS:=λD σ H=>D.nx σ H
def Sb(t u:TS):TS:=λD σ H=>t { D with nx:=u D } σ H
theorem Ei:PSs X [] Qo:=λ_ _ σ H _ I h=>fI ⟨σ,H,I,h⟩
theorem xn(h1:PS X st t)(h2:PSs X rest u):PSs X (st::rest) (Sb t u):=by
 intro pins s σ H D I h;refine iP (thn (h1 pins s σ H { D with nx:=u D } I h) λf s1 q=>?_);cases f with
 |next=>obtain⟨σ',H',I',q⟩:=q;exact h2 pins s1 σ' H' D I' q
 |ret v=>exact q
 |brk=>exact q
 |cont=>exact q
theorem zd(h1:PS X st t):PSs X [st] t:=by
 intro pins s σ H D I h;refine iP (thn (h1 pins s σ H D I h) λf s1 q=>?_);cases f with
 |next=>exact fI q
 |ret v=>exact q
 |brk=>exact q
 |cont=>exact q
theorem Inv.quiet{H:Hp}{s:ae}(I:Inv X pins σ H s):interactive X.env=false:=by simp[interactive,I.ok.kind]
def GA(te:TE):TS:=λD σ H=>te σ H λ_ H1=>D.nx σ H1
theorem Bu(he:PE X e te)(hs:cj e none pos.line X.env=pure false:=by rfl):PS X (.Expr e pos) (GA te):=by intro pins s σ H D I h;exact lG (thn (he pins s σ H _ I h) λv s1 ⟨x,H1,I1,r1,q1⟩=>⟨σ,H1,I1,q1⟩) I.quiet hs
def Qp(te:TE):TS:=λD σ H=>te σ H D.rt
theorem Dp(he:PE X e te):PS X (.Return (some e) pos) (Qp te):=by intro pins s σ H D I h;exact wpAny_Return_some (thn (he pins s σ H _ I h) λv s1 ⟨x,H1,I1,r1,q1⟩=>⟨x,σ,H1,I1,r1,q1⟩)
def Sd(c:TT)(t u:TS):TS:=λD σ H=>c σ H λb H1=>if b=true then t D σ H1 else u D σ H1
theorem LS{a b:List Stmt}{tc:TT}(hc:PT X c tc)(ha:PSs X a t)(hb:PSs X b u):PS X (.If c a b pos) (Sd tc t u):=by
 intro pins s σ H D I h;refine wpAny_If (thn (hc pins s σ H _ I h) λd s1 zz=>?_);obtain⟨H1,I1,q1⟩:=zz;cases d with
 |true=>exact ha pins s1 σ H1 D I1 q1
 |false=>exact hb pins s1 σ H1 D I1 q1
end
abbrev TG:=V->St->Hp->(St->Hp->Prop)->Prop
abbrev TGs:=List V->St->Hp->(St->Hp->Prop)->Prop
def PG(X:Cx)(target:Expr)(t:TG):Prop:=
 ∀(pins:List (Addr×Obj)) (s:ae) (σ:St) (H:Hp) (v:V) (u:aa) (Q:St->Hp->Prop),Inv X pins σ H s->RelV v u->t v σ H Q->
  af (model X.prog X.w) X.A (assign target X.env u) (λ_ s'=>∃σ' H',Inv X pins σ' H' s'/\Q σ' H') X.xe s
def PGs(X:Cx)(ts:List Expr)(t:TGs):Prop:=
 ∀(pins:List (Addr×Obj)) (s:ae) (σ:St) (H:Hp) (vs:List V) (us:List aa) (Q:St->Hp->Prop),Inv X pins σ H s->Vals vs us->t vs σ H Q->
  af (model X.prog X.w) X.A (assignInOrder ((cg ts X.env).map (·.2)) us) (λ_ s'=>∃σ' H',Inv X pins σ' H' s'/\Q σ' H') X.xe s
abbrev MN:=V->V->V->Hp->(Hp->Prop)->Prop
def Qq(X:Cx)(t:MN):Prop:=
 ∀(pins:List (Addr×Obj)) (s:ae) (σ:St) (H:Hp) (o i v:V) (ov iv u:aa) (Q:Hp->Prop),Inv X pins σ H s->RelV o ov->RelV i iv->RelV v u->t o i v H Q->
  af (model X.prog X.w) X.A (setItem ov iv u) (λ_ s'=>∃H',Inv X pins σ H' s'/\Q H') X.xe s
variable{es:List Expr}{tg:Expr}{te:TE}
section
variable{X:Cx}{pos:Pos}
def uA(i:Nat):TG:=λv σ H Q=>Q (σ.set i (some v)) H
theorem Ej(hN:X.N.Nodup)(hi:X.N[i]?=some x)(hx:Loc X.env.scope x)(hf:X.fn x=true\/X.env.scope.names.lookup x=some .local:=by first|exact .inl rfl|exact .inr rfl|assumption):PG X (.Name x pos) (uA i):=by intro pins s σ H v u Q I r h;exact wpAny_assign_Name (Ck I hN hi hx r (λs' I'=>⟨_,H,I',h⟩) hf)
def Qr:TGs:=λvs σ H Q=>vs=[]/\Q σ H
def LU(t:TG)(u:TGs):TGs:=λvs σ H Q=>∃v r,vs=v::r/\t v σ H λσ' H'=>u r σ' H' Q
theorem JH:PGs X [] Qr:=by intro pins s σ H vs us Q I r h;obtain⟨e,h⟩:=h;subst e;cases r;exact assignInOrder_nil ⟨σ,H,I,h⟩
theorem GB{t:TG}{u:TGs}(h1:PG X e t)(h2:PGs X es u)
  (hs:(cg (e::es) X.env).map (·.2)=assign e X.env::(cg es X.env).map (·.2):=by rfl):PGs X (e::es) (LU t u):=by
 intro pins s σ H vs us Q I r h;obtain⟨v,vr,e1,h⟩:=h;subst e1;cases r with
 |cons r rr=>rw[hs];refine assignInOrder_cons (thn (h1 pins s σ H _ _ _ I r h) λ_ s1 zz=>?_);obtain⟨σ1,H1,I1,q1⟩:=zz;exact h2 pins s1 σ1 H1 _ _ Q I1 rr q1
def MO(K:ak)(n:Nat)(t:TGs):TG:=λv σ H Q=>∃a xs,v=.ref a/\SqT K H a xs/\xs.length=n/\t xs σ H Q
theorem MP{k:Nat}{t:TGs}{n:Nat}(hc:X.calm=true)(h:PGs X es t)
  (hn:(cg es X.env).length=n:=by rfl) (hst:(cg es X.env).findIdx? (·.1)=none:=by rfl):PG X (.Tuple es k pos) (MO X.K n t):=by
 intro pins s σ H v u Q I r hw;obtain⟨a,xs,e1,hq,hl,hw⟩:=hw;subst e1;cases r;obtain⟨its,rv,ht,hz⟩:=I.tuple hq;refine assign_Tuple_tuple (I.ok.hd hc) ht (by simp[hn,<- hl,rv.length]) hst λh' hx=>?_;have I1:Inv X pins σ H { s with heap:=h' }:=I.kept (t':=s.toks) λb o e=>hx b o (aW (aJ e)) e;exact h pins _ σ H xs _ Q I1 (by simpa using rv) hw
def Qs(to ti:TE)(t:MN):TG:=λv σ H Q=>to σ H λo H1=>ti σ H1 λi H2=>t o i v H2 λH3=>Q σ H3
theorem MQ{o i:Expr}{to ti:TE}{t:MN}(ho:PE X o to)(hi:PE X i ti)(hs:Qq X t)
  (ha:∀v,assign (.Subscript o i pos) X.env v=(do
   let ov<-holding [v] (eval o X.env);let iv<-holding [v,ov] (eval i X.env)
   standAt pos
   holding [v,ov,iv] (setItem ov iv v)
   release [v,ov,iv] []):=by intro _;rfl):PG X (.Subscript o i pos) (Qs to ti t):=by
 intro pins s σ H v u Q I r h;rw[ha];refine aj (cp (thn (ho pins s σ H _ I h) λov s1 zz=>?_));obtain⟨x,H1,I1,r1,q1⟩:=zz;refine aj (cp (thn (hi pins s1 σ H1 _ I1 q1) λiv s2 zz=>?_));obtain⟨y,H2,I2,r2,q2⟩:=zz;refine aj (i5 (aj (cp (thn (hs pins s2 σ H2 x y v ov iv u _ I2 r1 r2 r q2) λ_ s3 zz=>?_))));obtain⟨H3,I3,q3⟩:=zz;exact wpAny_release ⟨σ,H3,I3,q3⟩
def yf(te:TE)(g:TG):TS:=λD σ H=>te σ H λx H1=>g x σ H1 D.nx
theorem MR{g:TG}(he:PE X e te)(hg:PG X tg g)(hs:swapsWithSole [tg] e pos.line X.env=pure false:=by rfl)(hw:swappedStores [tg] e X.env=pure none:=by rfl)
  (h1:(cg [tg] X.env).map (·.2)=[assign tg X.env]:=by rfl):PS X (.Assign [tg] e pos) (yf te g):=by
 intro pins s σ H D I h;refine wpAny_Assign_stores (thn (he pins s σ H _ I h) λv s1 zz=>?_) hs hw;obtain⟨x,H1,I1,r1,q1⟩:=zz;rw[h1];exact thn (hg pins s1 σ H1 x v _ I1 r1 q1) λ_ s2 q=>q
theorem MS{pos':Pos}(hN:X.N.Nodup)(hi:X.N[i]?=some x)(hx:Loc X.env.scope x)(he:PE X e te)(hs:cj e (some (.Name x pos')) pos.line X.env=pure false:=by rfl)(hf:X.fn x=true\/X.env.scope.names.lookup x=some .local:=by first|exact .inl rfl|exact .inr rfl|assumption):
  PS X (.Assign [.Name x pos'] e pos) (yf te (uA i)):=by
 intro pins s σ H D I h;refine wpAny_Assign_Name (thn (he pins s σ H _ I h) λv s1 zz=>?_) hs;obtain⟨y,H1,I1,r1,q1⟩:=zz;exact Ck I1 hN hi hx r1 (λs2 I2=>⟨_,H1,I2,q1⟩) hf
end
structure It where
 go:Nat->Hp->Prop
 yld:Nat->Hp->V->Hp->Prop
 stop:Nat->Hp->Prop
def Bv(X:Cx)(pins:List (Addr×Obj))(H:Hp)(b:Addr):Prop:=
 H b=none/\b≠X.env.locals/\b∉X.fs/\(b∈X.ex\/X.s₀.heap.objs.size<=b)/\(∀x c,X.env.cells.lookup x=some c->c≠b)/\∀p∈X.pn++pins,p.1≠b
theorem Inv.fpOk{H H':Hp}{s:ae}(I:Inv X pins σ H s)(hb:s.heap.objs.size<=b)(hn:H' b=none):Bv X pins H' b:=by
 refine⟨hn,jc (bQ I.lt hb),I.nofs hb,.inr (bp I.sz hb),λx c e z=>?_,λp hp z=>?_⟩
 ·obtain⟨v,q⟩:=I.cell x c e;exact ao (bQ q.lt (by rw[z];exact hb)) (dE _)
 ·exact ao (bQ (aJ (I.pin p hp).1) (by rw[z];exact hb)) (dE _)
structure Turn(P:ar)(w:aq)(K:ak)(tg:Expr)(J:It)(fp:List Addr)(it:Addr)(tn:Nat->Heap->Prop):Prop where
 mem:it∈fp
 obj:∀i h,tn i h->∀b∈fp,∃o,h.get? b=some o/\∀v,o.data≠.cell v
 keep:∀i h h',tn i h->(∀b∈fp,∀o,h.get? b=some o->h'.get? b=some o)->tn i h'
 item:∀(X:Cx),X.prog=P->X.w=w->X.K=K->X.calm=true->∀(i:Nat) (pins:List (Addr×Obj)) (s:ae) (σ:St) (H:Hp) (E:aa->ae->Prop),Inv X pins σ H s->(∀b∈fp,Bv X pins H b)->tn i s.heap->J.go i H->
  af (model P w) X.A (pyNext (.ref it)) (λr s1=>∃u,r=some u/\
   af (model P w) X.A (eF tg (.ref it) u) (λ_ s2=>∃x H',Inv X pins σ H' s2/\RelV x u/\J.yld i H x H'/\tn (i+1) s2.heap/\∀b∈fp,H' b=none) E s1) E s
 done:∀(X:Cx),X.prog=P->X.w=w->X.K=K->X.calm=true->∀(i:Nat) (pins:List (Addr×Obj)) (s:ae) (σ:St) (H:Hp) (E:aa->ae->Prop),Inv X pins σ H s->(∀b∈fp,Bv X pins H b)->tn i s.heap->J.stop i H->
  af (model P w) X.A (pyNext (.ref it)) (λr s1=>r=none/\Inv X pins σ H s1) E s
 self:∀(A:aw) (i:Nat) (s:ae) (Q:aa->ae->Prop) (E:aa->ae->Prop),tn i s.heap->Q (.ref it) s->af (model P w) A (pyIter (.ref it)) Q E s
abbrev TI:=St->Hp->(It->Hp->Prop)->Prop
def PIE(X:Cx)(pins:List (Addr×Obj))(σ:St)(tg:Expr)(R:It->Hp->Prop)(itv:aa)(s2:ae):Prop:=
 ∃(it:Addr) (fp:List Addr) (tn:Nat->Heap->Prop) (J:It) (H':Hp),itv=.ref it/\Inv X pins σ H' s2/\Turn X.prog X.w X.K tg J fp it tn/\tn 0 s2.heap/\(∀b∈fp,Bv X pins H' b)/\R J H'
def PI(X:Cx)(tg iter:Expr)(wi:TI):Prop:=
 ∀(pins:List (Addr×Obj)) (s:ae) (σ:St) (H:Hp) (R:It->Hp->Prop),Inv X pins σ H s->wi σ H R->
  af (model X.prog X.w) X.A (eval iter X.env) (λv s1=>af (model X.prog X.w) X.A (pyIter v) (PIE X pins σ tg R) X.xe s1) X.xe s
theorem Ek{A:aw}{s:ae}{o:Obj}{n:String}{vs:Array aa}{Q:Unit->ae->Prop}(ho:s.heap.get? it=some o)(hc:o.cls=.type n)(hd:o.data=.fields vs)
  (hn:["enumerate", "zip", "dict_itemiterator", "dict_reverseitemiterator", "odict_iterator", "itertools.zip_longest", "itertools.pairwise"].contains n=false) (hQ:Q () s):af M A (eF tg (.ref it) u) Q E s:=by
 unfold eF;cases tg<;>first
  |exact ay hQ
  |(cases u<;>first
    |exact ay hQ
    |(refine aj (wpAny_load ho ?_)
      rw[hc,hd];show af M A (if (["enumerate", "zip", "dict_itemiterator", "dict_reverseitemiterator", "odict_iterator", "itertools.zip_longest", "itertools.pairwise"].contains n&&vs[0]?==some (rawInt _))=true then _ else _) Q E s;rw[ai (by intro h;rw[hn,Bool.false_and]at h;cases h)];exact ay hQ))
def Itl(K:ak)(a:Addr):It:=
 ⟨λi H=>∃xs x,SqL K H a xs/\xs[i]?=some x,λi H x H'=>H'=H/\∀xs,SqL K H a xs->xs[i]?=some x,λi H=>∃xs,SqL K H a xs/\xs.length<=i⟩
def Itt(K:ak)(a:Addr):It:=
 ⟨λi H=>∃xs x,SqT K H a xs/\xs[i]?=some x,λi H x H'=>H'=H/\∀xs,SqT K H a xs->xs[i]?=some x,λi H=>∃xs,SqT K H a xs/\xs.length<=i⟩
def Itr(lo:Int)(n:Nat):It:=⟨λi _=>i<n,λi H x H'=>H'=H/\x=.int (lo+i),λi _=>n<=i⟩
theorem Fs{P:ar}{w:aq}{K:ak}(a it:Addr):Turn P w K tg (Itl K a) [it] it (λi h=>h.IsListIter it a i) where
 mem:=by simp
 obj:=λi h st b hb=>by
  have e:b=it:=by simpa using hb
  subst e;obtain⟨o,e,c,d⟩:=st;exact⟨o,e,λv z=>by rw[d]at z;cases z⟩
 keep:=λi h h' st k=>st.at λo e=>k it (by simp) o e
 item:=by intro X hP hw hK hc i pins s σ H E I hf st hg;subst hP hw hK;obtain⟨xs,x,hq,hx⟩:=hg;obtain⟨its,rv,p,hz⟩:=I.list hq;obtain⟨u,hu,ru⟩:=rv.get hx;obtain⟨f0,f1,f2,f3,f4,f5⟩:=hf it (by simp);refine wpAny_pyNext_list_item st p.isList (x:=u) (by simpa using hu) λh' st' sb=>?_;have I1:Inv X pins σ H { s with heap:=h' }:=I.turned (t':=s.toks) (λb o hb e=>(sb.2 b hb).trans e) f0 f1 f3 f4 f5;obtain⟨o,e,c,d⟩:=id st';exact⟨u,rfl,Ek (s:={ s with heap:=h' }) e c d (by decide) ⟨x,H,I1,ru,⟨rfl,λys hy=>by rw[I.list_inj hy hq];exact hx⟩,st',λb hb=>(hf b hb).1⟩⟩
 done:=by intro X hP hw hK hc i pins s σ H E I hf st hg;subst hP hw hK;obtain⟨xs,hq,hx⟩:=hg;obtain⟨its,rv,p,hz⟩:=I.list hq;obtain⟨f0,f1,f2,f3,f4,f5⟩:=hf it (by simp);have hl:=rv.length;exact wpAny_pyNext_list_end (I.ok.hd hc) st p.isList (by simp;omega) λh' eb=>⟨rfl,I.turned (t':=s.toks) (λb o hb e=>eb b o hb e) f0 f1 f3 f4 f5⟩
 self:=λ_ _ _ _ _ st h=>wpAny_pyIter_listiter st h
theorem Dr{P:ar}{w:aq}{K:ak}(a it:Addr):Turn P w K tg (Itt K a) [it] it (λi h=>h.IsTupleIter it a i) where
 mem:=by simp
 obj:=λi h st b hb=>by
  have e:b=it:=by simpa using hb
  subst e;obtain⟨o,e,c,d⟩:=st;exact⟨o,e,λv z=>by rw[d]at z;cases z⟩
 keep:=λi h h' st k=>st.at λo e=>k it (by simp) o e
 item:=by intro X hP hw hK hc i pins s σ H E I hf st hg;subst hP hw hK;obtain⟨xs,x,hq,hx⟩:=hg;obtain⟨its,rv,p,hz⟩:=I.tuple hq;obtain⟨u,hu,ru⟩:=rv.get hx;obtain⟨f0,f1,f2,f3,f4,f5⟩:=hf it (by simp);refine wpAny_pyNext_tuple_item st (show s.heap.IsTuple a its.toArray from p) (x:=u) (by simpa using hu) λh' st' sb=>?_;have I1:Inv X pins σ H { s with heap:=h' }:=I.turned (t':=s.toks) (λb o hb e=>(sb.2 b hb).trans e) f0 f1 f3 f4 f5;obtain⟨o,e,c,d⟩:=id st';exact⟨u,rfl,Ek (s:={ s with heap:=h' }) e c d (by decide) ⟨x,H,I1,ru,⟨rfl,λys hy=>by rw[I.tuple_inj hy hq];exact hx⟩,st',λb hb=>(hf b hb).1⟩⟩
 done:=by intro X hP hw hK hc i pins s σ H E I hf st hg;subst hP hw hK;obtain⟨xs,hq,hx⟩:=hg;obtain⟨its,rv,p,hz⟩:=I.tuple hq;obtain⟨f0,f1,f2,f3,f4,f5⟩:=hf it (by simp);have hl:=rv.length;exact wpAny_pyNext_tuple_end (I.ok.hd hc) st (show s.heap.IsTuple a its.toArray from p) (by simp;omega) λh' eb=>⟨rfl,I.turned (t':=s.toks) (λb o hb e=>eb b o hb e) f0 f1 f3 f4 f5⟩
 self:=λ_ _ _ _ _ st h=>wpAny_pyIter_tupleiter st h
theorem Ds{P:ar}{w:aq}{K:ak}(it:Addr)(lo:Int)(n:Nat):Turn P w K tg (Itr lo n) [it] it (λi h=>IsRangeIter h it (lo+(i:Nat) * 1) ((n:Int) - (i:Nat)) 1) where
 mem:=by simp
 obj:=λi h st b hb=>by
  have e:b=it:=by simpa using hb
  subst e;exact⟨_,st,λv z=>by
   have z':Data.fields _=Data.cell v:=z;cases z'⟩
 keep:=λi h h' st k=>k it (by simp) _ st
 item:=by intro X hP hw hK hc i pins s σ H E I hf st hg;subst hP hw hK;obtain⟨f0,f1,f2,f3,f4,f5⟩:=hf it (by simp);have W:=Walks.range (prog:=X.prog) (w:=X.w) (I.ok.hd hc) it lo 1 n;refine W.item i s _ _ hg st λv h' tk hv st' kk=>?_;obtain⟨t,rfl⟩:=hv;have I1:Inv X pins σ H { s with heap:=h',toks:=tk }:=I.turned (λb o hb e=>kk b o (by simpa using hb) e) f0 f1 f3 f4 f5;refine⟨_,rfl,Ek (s:={ s with heap:=h',toks:=tk }) (n:="range_iterator") st' rfl rfl (by decide) ⟨.int (lo+i),H,I1,⟨t,?_⟩,⟨rfl,rfl⟩,st',λb hb=>(hf b hb).1⟩⟩;rw[Int.mul_one]
 done:=by intro X hP hw hK hc i pins s σ H E I hf st hg;subst hP hw hK;obtain⟨f0,f1,f2,f3,f4,f5⟩:=hf it (by simp);exact wpAny_pyNext_range_end (I.ok.hd hc) st (by have:n<=i:=hg;omega) λh' eb=>⟨rfl,I.turned (t':=s.toks) (λb o hb e=>eb b o hb e) f0 f1 f3 f4 f5⟩
 self:=λ_ _ _ _ _ st h=>wpAny_pyIter_rangeiter st h
variable{l:Expr}{tl:TE}{body:List Stmt}
section
variable{X:Cx}{tg:Expr}
def GE(K:ak)(tl:TE):TI:=λσ H R=>tl σ H λx H1=>∃a,x=.ref a/\(∃xs,SqL K H1 a xs)/\R (Itl K a) H1
def MU(K:ak)(tl:TE):TI:=λσ H R=>tl σ H λx H1=>∃a,x=.ref a/\(∃xs,SqT K H1 a xs)/\R (Itt K a) H1
theorem JI(hl:PE X l tl):PI X tg l (GE X.K tl):=by
 intro pins s σ H R I h;refine thn (hl pins s σ H _ I h) λv s1 zz=>?_;obtain⟨x,H1,I1,r1,q1⟩:=zz;obtain⟨a,e,⟨xs,hq⟩,q⟩:=q1;subst e;cases r1;obtain⟨its,rv,p,hz⟩:=I1.list hq;refine fA p.isList ?_;refine⟨s1.heap.objs.size,[s1.heap.objs.size],_,_,H1,rfl,I1.kept (t':=s1.toks) λb o e=>aM _ e,Fs a _,⟨_,bB _ rfl,rfl,rfl⟩,λb hb=>?_,q⟩;have e:b=s1.heap.objs.size:=by simpa using hb
 subst e;exact I1.fpOk (aC _) (I1.hok.fresh (aC _))
theorem MV(hl:PE X l tl):PI X tg l (MU X.K tl):=by
 intro pins s σ H R I h;refine thn (hl pins s σ H _ I h) λv s1 zz=>?_;obtain⟨x,H1,I1,r1,q1⟩:=zz;obtain⟨a,e,⟨xs,hq⟩,q⟩:=q1;subst e;cases r1;obtain⟨its,rv,p,hz⟩:=I1.tuple hq;refine iE (show s1.heap.IsTuple a its.toArray from p) ?_;refine⟨s1.heap.objs.size,[s1.heap.objs.size],_,_,H1,rfl,I1.kept (t':=s1.toks) λb o e=>aM _ e,Dr a _,⟨_,bB _ rfl,rfl,rfl⟩,λb hb=>?_,q⟩;have e:b=s1.heap.objs.size:=by simpa using hb
 subst e;exact I1.fpOk (aC _) (I1.hok.fresh (aC _))
theorem GF{H:Hp}{s:ae}{R:It->Hp->Prop}{lo hi:Int}{t u v:Tok}{tk:Nat}(I:Inv X pins σ H s)(h1:-(2 ^ 62)<=lo)(h2:lo<2 ^ 62)(h3:-(2 ^ 62)<=hi)(h4:hi<2 ^ 62)
  (q:R (Itr lo (hi - lo).toNat) H):af (model X.prog X.w) X.A (pyIter (.ref s.heap.objs.size)) (PIE X pins σ tg R) E { s with heap:=s.heap.push { cls:=.type "range", data:=.fields #[.int lo t,.int hi u,.int 1 v] },toks:=tk }:=by
 refine wpAny_pyIter_range (IsRange.new ..) (small_one h1 h2 h3 h4) ?_;have I1:Inv X pins σ H { s with heap:=s.heap.push { cls:=.type "range", data:=.fields #[.int lo t,.int hi u,.int 1 v] },toks:=tk }:=I.kept λb o e=>aM _ e;refine⟨(s.heap.push { cls:=.type "range", data:=.fields #[.int lo t,.int hi u,.int 1 v] }).objs.size,[(s.heap.push { cls:=.type "range", data:=.fields #[.int lo t,.int hi u,.int 1 v] }).objs.size],_,_,H,rfl,
  I1.kept (t':=tk) λb o e=>aM _ e,Ds _ lo (hi - lo).toNat,?_,λb hb=>?_,q⟩
 ·have e1:lo+((0:Nat):Int) * 1=lo:=by simp
  have e2:(((hi - lo).toNat:Nat):Int) - ((0:Nat):Int)=nD lo hi 1:=by rw[rangeSize_one];split<;>omega
  show IsRangeIter _ _ (lo+((0:Nat):Int) * 1) ((((hi - lo).toNat:Nat):Int) - ((0:Nat):Int)) 1;rw[e1,e2];exact bB _ rfl
 ·have e:b=(s.heap.push { cls:=.type "range", data:=.fields #[.int lo t,.int hi u,.int 1 v] }).objs.size:=by simpa using hb
  subst e;exact I1.fpOk (aC _) (I1.hok.fresh (aC _))
def LV(ta:TA):TI:=λσ H R=>ta σ H λvs H1=>∃j:Int,vs=[.int j]/\-(2 ^ 62)<=j/\j<2 ^ 62/\R (Itr 0 j.toNat) H1
theorem Ft{a:Expr}{ta:TA}{p:Pos}(hg:Gl X "range")(hm:X.mg "range" = none)(ha:PA X [a] ta)(hs:az [a] X.env=[(false,eval a X.env)]:=by rfl):PI X tg (.Call (.Name "range" p) [a] [] pos) (LV ta):=by
 intro pins s σ H R I h;refine Call_ (ye I hg hm boot_range (callWith_type1 (thn (ha pos pins s σ H _ I h) λus s1 zz=>?_) hs rfl));obtain⟨vs,H1,I1,r1,q1⟩:=zz;obtain⟨j,e,q1,q2,q⟩:=q1;subst e;cases r1 with
 |cons r rr=>cases rr;obtain⟨t,rfl⟩:=r;exact call_range_1 (GF I1 (by omega) (by omega) q1 q2 (by simpa using q))
def MW(wi:TI)(g:TG)(tb:TS):TS:=λD σ H=>wi σ H λJ H1=>∃W:Nat->Nat->St->Hp->Prop,(∃m,W 0 m σ H1)/\∀i m σ H,W i m σ H->
 (J.stop i H/\D.nx σ H)\/(J.go i H/\∃N:St->Hp->Prop,(∀σ' H',N σ' H'->∃m',m'<m/\W (i+1) m' σ' H')/\∀x H',J.yld i H x H'->g x σ H' λσ2 H2=>tb { D with nx:=N,ct:=N,bk:=D.nx } σ2 H2)
def zt(fp:List Addr)(h:Heap):List (Addr×Obj):=fp.filterMap λb=>(h.get? b).map λo=>(b,o)
theorem tD{fp:List Addr}{h:Heap}{o:Obj}(hb:b∈fp)(e:h.get? b=some o):(b,o)∈zt fp h:=dR.mpr ⟨b,hb,by rw[e];rfl⟩
theorem Fu{fp:List Addr}{h:Heap}{p:Addr×Obj}(hp:p∈zt fp h):p.1∈fp/\h.get? p.1=some p.2:=by
 obtain⟨b,hb,e⟩:=dR.mp hp;cases q:h.get? b with
 |none=>rw[q]at e;cases e
 |some o=>rw[q]at e;have e':(b,o)=p:=bW e;subst e';exact⟨hb,q⟩
theorem Inv.pinned{H:Hp}{s:ae}{fp:List Addr}(I:Inv X pins σ H s)(hf:∀b∈fp,Bv X pins H b)(ho:∀b∈fp,∃o,s.heap.get? b=some o/\∀v,o.data≠.cell v):Inv X (pins++zt fp s.heap) σ H s:=
 I.pins_of λp hp=>(aV.mp hp).elim (λz=>I.pin p (bh _ z)) λz=>by obtain⟨hb,e⟩:=Fu z;obtain⟨f0,f1,f2,_⟩:=hf p.1 hb;obtain⟨o,e',d⟩:=ho p.1 hb;rw[e]at e';cases e';exact⟨e,f0,f1,f2,d⟩
theorem Inv.unpinned{pl:List (Addr×Obj)}{H:Hp}{s:ae}(I:Inv X (pins++pl) σ H s):Inv X pins σ H s:=I.pins_of λp hp=>I.pin p (bh _ (bI _ hp))
theorem GH{iter:Expr}{wi:TI}{g:TG}{tb:TS}(hp:PassesOwn (model X.prog X.w) X.A X.env X.xe)(hc:X.calm=true)(hi:PI X tg iter wi)(hg:PG X tg g)(hb:PSs X body tb)
  (hs:∀x,fB iter X.env x=pure x:=by intro _;rfl):PS X (.For tg iter body [] pos) (MW wi g tb):=by
 intro pins s σ H D I h;refine wpAny_For (thn (hi pins s σ H _ I h) λv s1 h1=>thn h1 λitv s2 h2=>?_) hs;obtain⟨it,fp,tn,J,H2,e,I2,T,st2,f2,W,⟨m0,w0⟩,turn⟩:=h2;subst e;have stat:∀{H':Hp},(∀b∈fp,H' b=none)->∀b∈fp,Bv X pins H' b:=λhn b hb=>⟨hn b hb,(f2 b hb).2⟩;refine codeAny_forLoop_any (λn s'=>∃i σ' H',Inv X pins σ' H' s'/\tn i s'.heap/\(∀b∈fp,H' b=none)/\W i n σ' H') ?_ m0 ⟨0,σ,H2,I2,st2,λb hb=>(f2 b hb).1,w0⟩;rintro n s3 ⟨i,σ3,H3,I3,st3,fr3,w3⟩;rcases turn i n σ3 H3 w3 with ⟨stop,qn⟩|⟨go,N,hN,step⟩
 ·refine fJ hp (thn (T.done X rfl rfl rfl hc i pins s3 σ3 H3 X.xe I3 (stat fr3) st3 stop) λr s4 zz=>?_);obtain⟨hr,I4⟩:=zz;subst hr;exact fI ⟨σ3,H3,I4,qn⟩
 ·refine fJ hp (thn (T.item X rfl rfl rfl hc i pins s3 σ3 H3 X.xe I3 (stat fr3) st3 go) λr s4 zz=>?_);obtain⟨u,hr,h4⟩:=zz;subst hr;refine fJ hp (thn h4 λ_ s5 zz=>?_);obtain⟨x,H5,I5,r5,y5,st5,fr5⟩:=zz;have I5':=I5.pinned (stat fr5) (T.obj _ _ st5);refine fJ hp (thn (hg _ s5 σ3 H5 x u _ I5' r5 (step x H5 y5)) λ_ s6 zz=>?_);obtain⟨σ6,H6,I6,q6⟩:=zz;refine fJ hp (thn (hb _ s6 σ6 H6 _ I6 q6) λf s7 q7=>?_);have again:∀{σ7:St} {H7:Hp},Inv X (pins++zt fp s5.heap) σ7 H7 s7->N σ7 H7->∃m,m<n/\∃i σ' H',Inv X pins σ' H' s7/\tn i s7.heap/\(∀b∈fp,H' b=none)/\W i m σ' H':=λ{σ7 H7} I7 n7=>by obtain⟨m',hm,w7⟩:=hN σ7 H7 n7;refine⟨m',hm,i+1,σ7,H7,I7.unpinned,T.keep _ _ _ st5 λb hb o e=>(I7.pin (b,o) (bh _ (bh _ (tD hb e)))).1,λb hb=>?_,w7⟩;obtain⟨o,e,d⟩:=T.obj _ _ st5 b hb;exact(I7.pin (b,o) (bh _ (bh _ (tD hb e)))).2.1
  cases f with
  |next=>obtain⟨σ7,H7,I7,n7⟩:=q7;exact again I7 n7
  |cont=>obtain⟨σ7,H7,I7,n7⟩:=q7;exact again I7 n7
  |brk=>obtain⟨σ7,H7,I7,q7⟩:=q7;exact⟨σ7,H7,I7.unpinned,q7⟩
  |ret v=>obtain⟨x7,σ7,H7,I7,r7,q7⟩:=q7;exact⟨x7,σ7,H7,I7.unpinned,r7,q7⟩
end
abbrev R2:=V->V->Hp->VK->Prop
def OpR(X:Cx)(f:aa->aa->Sem aa)(r:R2):Prop:=
 ∀(pins:List (Addr×Obj)) (s:ae) (σ:St) (H:Hp) (x y:V) (v u:aa) (Q:VK),Inv X pins σ H s->RelV x v->RelV y u->r x y H Q->
  af (model X.prog X.w) X.A (f v u) (EP X pins σ Q) X.xe s
def UnR(X:Cx)(f:aa->Sem aa)(r:V->Hp->VK->Prop):Prop:=
 ∀(pins:List (Addr×Obj)) (s:ae) (σ:St) (H:Hp) (x:V) (v:aa) (Q:VK),Inv X pins σ H s->RelV x v->r x H Q->
  af (model X.prog X.w) X.A (f v) (EP X pins σ Q) X.xe s
def qC(X:Cx)(f:aa)(r:List V->Hp->VK->Prop):Prop:=
 ∀(pins:List (Addr×Obj)) (s:ae) (σ:St) (H:Hp) (xs:List V) (us:List aa) (Q:VK),Inv X pins σ H s->Vals xs us->r xs H Q->
  af (model X.prog X.w) X.A (call f us) (EP X pins σ Q) X.xe s
def tOp(r:R2)(ta tb:TE):TE:=λσ H Q=>ta σ H λx H1=>tb σ H1 λy H2=>r x y H2 Q
def tUn(r:V->Hp->VK->Prop)(ta:TE):TE:=λσ H Q=>ta σ H λx H1=>r x H1 Q
def rI(C:Int->Int->Prop)(g:Int->Int->V):R2:=λx y H Q=>∃i j,x=.int i/\y=.int j/\C i j/\Q (g i j) H
def rI0(g:Int->Int->V):R2:=λx y H Q=>∃i j,x=.int i/\y=.int j/\Q (g i j) H
def rU(g:Int->V):V->Hp->VK->Prop:=λx H Q=>∃i,x=.int i/\Q (g i) H
variable{f:aa->aa->Sem aa}{r:R2}
section
variable{X:Cx}{a b c:Expr}{ta tb tc:TE}{pos:Pos}
theorem MX(ha:PE X a ta)(hb:PE X b tb){s:ae}{H:Hp}(I:Inv X pins σ H s)
  (h:ta σ H λx H1=>tb σ H1 λy H2=>R x y H2)
  (hf:∀v u s2 x y H2,Inv X pins σ H2 s2->RelV x v->RelV y u->R x y H2->af (model X.prog X.w) X.A (f v u) Q X.xe s2):
  af (model X.prog X.w) X.A (eval a X.env) (λv s₁=>af (model X.prog X.w) X.A (eval b X.env) (λu s₂=>af (model X.prog X.w) X.A (f v u) Q X.xe s₂) X.xe s₁) X.xe s:=by
 refine thn (ha pins s σ H _ I h) λv s1 zz=>?_;obtain⟨x,H1,I1,r1,q1⟩:=zz;refine thn (hb pins s1 σ H1 _ I1 q1) λu s2 zz=>?_;obtain⟨y,H2,I2,r2,q2⟩:=zz;exact hf v u s2 x y H2 I2 r1 r2 q2
theorem El{op:hE}(ho:OpR X (ck op) r)(ha:PE X a ta)(hb:PE X b tb):PE X (.BinOp a op b pos) (tOp r ta tb):=by intro pins s σ H Q I h;exact wpAny_BinOp (MX ha hb I h λv u s2 x y H2 I2 rx ry q=>ho pins s2 σ H2 x y v u Q I2 rx ry q)
theorem Qt{op:UnaryOp}{r:V->Hp->VK->Prop}(ho:UnR X (unaryOp op) r)(ha:PE X a ta):PE X (.UnaryOp op a pos) (tUn r ta):=by intro pins s σ H Q I h;exact UnaryOp_ (thn (ha pins s σ H _ I h) λv s1 ⟨x,H1,I1,r1,q1⟩=>ho pins s1 σ H1 x v Q I1 r1 q1)
theorem opI{C:Int->Int->Prop}{g:Int->Int->Int}
  (rule:∀(i j:Int) (t u:Tok) (s:ae) (Q:aa->ae->Prop) (E:aa->ae->Prop),C i j->Q (.int (g i j) s.toks) { s with toks:=s.toks+1 }->af (model X.prog X.w) X.A (f (.int i t) (.int j u)) Q E s):
  OpR X f (rI C λi j=>.int (g i j)):=by
 intro pins s σ H x y v u Q I rx ry h;obtain⟨i,j,rfl,rfl,hc,q⟩:=h;obtain⟨t,rfl⟩:=rx;obtain⟨t',rfl⟩:=ry;exact rule i j t t' s _ _ hc ⟨.int (g i j),H,I.tok _,⟨_,rfl⟩,q⟩
theorem Se{g:Int->Int->Int}
  (rule:∀(i j:Int) (t u:Tok) (s:ae) (Q:aa->ae->Prop) (E:aa->ae->Prop),Q (.int (g i j) s.toks) { s with toks:=s.toks+1 }->af (model X.prog X.w) X.A (f (.int i t) (.int j u)) Q E s):
  OpR X f (rI0 λi j=>.int (g i j)):=by
 intro pins s σ H x y v u Q I rx ry h;obtain⟨i,j,rfl,rfl,q⟩:=h;obtain⟨t,rfl⟩:=rx;obtain⟨t',rfl⟩:=ry;exact rule i j t t' s _ _ ⟨.int (g i j),H,I.tok _,⟨_,rfl⟩,q⟩
theorem JJ{g:Int->Int->Bool}
  (rule:∀(i j:Int) (t u:Tok) (s:ae) (Q:aa->ae->Prop) (E:aa->ae->Prop),Q (.bool (g i j)) s->af (model X.prog X.w) X.A (f (.int i t) (.int j u)) Q E s):
  OpR X f (rI0 λi j=>.bl (g i j)):=by
 intro pins s σ H x y v u Q I rx ry h;obtain⟨i,j,rfl,rfl,q⟩:=h;obtain⟨t,rfl⟩:=rx;obtain⟨t',rfl⟩:=ry;exact rule i j t t' s _ _ ⟨.bl (g i j),H,I,rfl,q⟩
def MY(i j:Int):Prop:=0<j/\j<1073741824
def Qu(i j:Int):Prop:=0<=j/\j<=1000000/\i.natAbs<2 ^ 64
def JK(i j:Int):Prop:=(-(2 ^ 64)<i/\i<2 ^ 64)\/(-(2 ^ 64)<j/\j<2 ^ 64)
theorem JK.ok{i j:Int}(h:JK i j):IntMulOk i j:=by
 rcases h with ⟨h1,h2⟩|⟨h1,h2⟩
 ·exact .of_left (lY h1 h2)
 ·exact .of_right (lY h1 h2)
theorem MZ:OpR X (ck .Add) (rI0 λi j=>.int (i+j)):=Se λ_ _ _ _ _ _ _ q=>add_int q
theorem M0:OpR X (ck .Mult) (rI JK λi j=>.int (i * j)):=opI λ_ _ _ _ _ _ _ hc q=>mul_int q hc.ok
theorem JL:OpR X (ck .FloorDiv) (rI MY λi j=>.int (i / j)):=opI λi j _ _ _ _ _ hc q=>by have h1:(0:Int)<j:=hc.1;have h2:j<1073741824:=hc.2;exact floordiv_int (by omega) (by rw[Int.fdiv_eq_ediv_of_nonneg i (by omega)];exact q) (.inl (PyProof.noPylong_small (by omega)))
theorem M1:OpR X (ck .Mod) (rI (λ_ j=>0<j) λi j=>.int (i % j)):=opI λi j _ _ _ _ _ hc q=>by have h1:(0:Int)<j:=hc;exact mod_int' (by omega) (by rw[Int.fmod_eq_emod_of_nonneg i (by omega)];exact q)
theorem M3:OpR X (ck .Pow) (rI Qu λi j=>.int (i ^ j.toNat)):=opI λ_ _ _ _ _ _ _ hc q=>pow_int_small hc.1 hc.2.1 hc.2.2 q
theorem unI{f:aa->Sem aa}{g:Int->Int}
  (rule:∀(i:Int) (t:Tok) (s:ae) (Q:aa->ae->Prop) (E:aa->ae->Prop),Q (.int (g i) s.toks) { s with toks:=s.toks+1 }->af (model X.prog X.w) X.A (f (.int i t)) Q E s):
  UnR X f (rU λi=>.int (g i)):=by
 intro pins s σ H x v Q I rx h;obtain⟨i,rfl,q⟩:=h;obtain⟨t,rfl⟩:=rx;exact rule i t s _ _ ⟨.int (g i),H,I.tok _,⟨_,rfl⟩,q⟩
theorem M4:UnR X (unaryOp .USub) (rU λi=>.int (-i)):=unI λ_ _ _ _ _ q=>neg_int q
end
def GK:V->V->Bool
 |.non,.non=>true|.non,.int _=>true|.int _,.non=>true|.non,.bl _=>true|.bl _,.non=>true|.non,.str _=>true|.str _,.non=>true
 |.int _,.int _=>true|.bl _,.bl _=>true|.str _,.str _=>true|.byt _,.byt _=>true
 |.int _,.str _=>true|.str _,.int _=>true|.bl _,.str _=>true|.str _,.bl _=>true
 |_,_=>false
def rEq:R2:=λx y H Q=>GK x y=true/\Q (.bl (decide (x=y))) H
def rNe:R2:=λx y H Q=>GK x y=true/\Q (.bl (!decide (x=y))) H
theorem Em{i j:Int}:decide (V.int i=V.int j)=(i==j):=by rw[bS];simp
theorem GL{i j:Bool}:decide (V.bl i=V.bl j)=(i==j):=by rw[bS];simp
theorem En{i j:Str}:decide (V.str i=V.str j)=(i==j):=by rw[bS];simp
theorem Eo{i j:Array UInt8}:decide (V.byt i=V.byt j)=(i.toList==j.toList):=by rw[bS];cases i;cases j;simp
variable{op':eB}{r':R2}
section
variable{X:Cx}{a b c:Expr}{ta tb tc:TE}{pos:Pos}
theorem pD{H:Hp}{s:ae}{Q:VK}{k k':Bool}(I:Inv X pins σ H s)(q:Q (.bl k) H)(e:k=k'):EP X pins σ Q (.bool k') s:=by subst e;exact⟨.bl k,H,I,rfl,q⟩
theorem Qv:OpR X (aS .Eq) rEq:=by
 intro pins s σ H x y v u Q I rx ry h;obtain⟨hs,q⟩:=h;cases x with
 |non=>
  cases rx;cases y with
  |non=>cases ry;exact mP (pD I q (by simp))
  |bl j=>cases ry;exact mQ (pD I q (by simp))
  |int j=>obtain⟨t',rfl⟩:=ry;exact m4 (pD I q (by simp))
  |str j=>obtain⟨t',rfl⟩:=ry;exact m5 (pD I q (by simp))
  |_=>exact ao (show false=true from hs) ba
 |bl i=>
  cases rx;cases y with
  |non=>cases ry;exact mR (pD I q (by simp))
  |bl j=>cases ry;exact eq_bool (pD I q GL)
  |str j=>obtain⟨t',rfl⟩:=ry;exact mS (pD I q (by simp))
  |_=>exact ao (show false=true from hs) ba
 |int i=>
  obtain⟨t,rfl⟩:=rx;cases y with
  |non=>cases ry;exact m6 (pD I q (by simp))
  |int j=>obtain⟨t',rfl⟩:=ry;exact eq_int (pD I q Em)
  |str j=>obtain⟨t',rfl⟩:=ry;exact m7 (pD I q (by simp))
  |_=>exact ao (show false=true from hs) ba
 |str i=>
  obtain⟨t,rfl⟩:=rx;cases y with
  |non=>cases ry;exact m8 (pD I q (by simp))
  |bl j=>cases ry;exact mT (pD I q (by simp))
  |int j=>obtain⟨t',rfl⟩:=ry;exact m9 (pD I q (by simp))
  |str j=>obtain⟨t',rfl⟩:=ry;exact eq_str (pD I q En)
  |_=>exact ao (show false=true from hs) ba
 |byt i=>
  obtain⟨t,rfl⟩:=rx;cases y with
  |byt j=>obtain⟨t',rfl⟩:=ry;exact W.eq_bytes (pD I q Eo)
  |_=>exact ao (show false=true from hs) ba
 |_=>cases y<;>exact ao (show false=true from hs) ba
theorem Qw:OpR X (aS .NotEq) rNe:=by
 intro pins s σ H x y v u Q I rx ry h;obtain⟨hs,q⟩:=h;cases x with
 |non=>
  cases rx;cases y with
  |non=>cases ry;exact mV (pD I q (by simp))
  |bl j=>cases ry;exact mW (pD I q (by simp))
  |int j=>obtain⟨t',rfl⟩:=ry;exact ng (pD I q (by simp))
  |str j=>obtain⟨t',rfl⟩:=ry;exact nh (pD I q (by simp))
  |_=>exact ao (show false=true from hs) ba
 |bl i=>
  cases rx;cases y with
  |non=>cases ry;exact mX (pD I q (by simp))
  |bl j=>cases ry;exact ne_bool (pD I q (aX not GL))
  |str j=>obtain⟨t',rfl⟩:=ry;exact mY (pD I q (by simp))
  |_=>exact ao (show false=true from hs) ba
 |int i=>
  obtain⟨t,rfl⟩:=rx;cases y with
  |non=>cases ry;exact ni (pD I q (by simp))
  |int j=>obtain⟨t',rfl⟩:=ry;exact ne_int (pD I q (aX not Em))
  |str j=>obtain⟨t',rfl⟩:=ry;exact nq (pD I q (by simp))
  |_=>exact ao (show false=true from hs) ba
 |str i=>
  obtain⟨t,rfl⟩:=rx;cases y with
  |non=>cases ry;exact nt (pD I q (by simp))
  |bl j=>cases ry;exact mZ (pD I q (by simp))
  |int j=>obtain⟨t',rfl⟩:=ry;exact nv (pD I q (by simp))
  |str j=>obtain⟨t',rfl⟩:=ry;exact ne_str (pD I q (aX not En))
  |_=>exact ao (show false=true from hs) ba
 |byt i=>
  obtain⟨t,rfl⟩:=rx;cases y with
  |byt j=>obtain⟨t',rfl⟩:=ry;exact W.ne_bytes (pD I q (aX not Eo))
  |_=>exact ao (show false=true from hs) ba
 |_=>cases y<;>exact ao (show false=true from hs) ba
theorem Qx:OpR X (aS .Lt) (rI0 λi j=>.bl (decide (i<j))):=JJ λ_ _ _ _ _ _ _ q=>lt_int q
theorem Qy:OpR X (aS .LtE) (rI0 λi j=>.bl (decide (i<=j))):=JJ λ_ _ _ _ _ _ _ q=>le_int q
theorem Qz:OpR X (aS .Gt) (rI0 λi j=>.bl (decide (j<i))):=JJ λ_ _ _ _ _ _ _ q=>gt_int q
theorem QA:OpR X (aS .GtE) (rI0 λi j=>.bl (decide (j<=i))):=JJ λ_ _ _ _ _ _ _ q=>ge_int q
theorem M5:OpR X (aS .Is) (λx y H Q=>y=.non/\Q (.bl (decide (x=.non))) H):=by
 intro pins s σ H x y v u Q I rx ry h;obtain⟨rfl,q⟩:=h;cases ry;refine is_none_gen (pD I q ?_);cases x<;>first
  |(cases rx;rfl)
  |(obtain⟨t,rfl⟩:=rx;rfl)
theorem JM:OpR X (aS .IsNot) (λx y H Q=>y=.non/\Q (.bl (!decide (x=.non))) H):=by
 intro pins s σ H x y v u Q I rx ry h;obtain⟨rfl,q⟩:=h;cases ry;refine isnot_none_gen (pD I q ?_);cases x<;>first
  |(cases rx;rfl)
  |(obtain⟨t,rfl⟩:=rx;rfl)
theorem JN(ho:OpR X (aS op) r)(ha:PE X a ta)(hb:PE X b tb)(hm:cD op b=false):PE X (.Compare a [op] [b] pos) (tOp r ta tb):=by intro pins s σ H Q I h;exact wpAny_Compare1 (MX ha hb I h λv u s2 x y H2 I2 rx ry q=>ho pins s2 σ H2 x y v u Q I2 rx ry q) hm
def GN(t:TE):TT:=λσ H Q=>t σ H λx H'=>∃k,x=.bl k/\Q k H'
theorem JO(ho:OpR X (aS op) r)(ha:PE X a ta)(hb:PE X b tb)(hm:cD op b=false):PT X (.Compare a [op] [b] pos) (GN (tOp r ta tb)):=by
 intro pins s σ H Q I h;refine jZ (thn (ha pins s σ H _ I h) λv s1 ⟨x,H1,I1,r1,q1⟩=>thn (hb pins s1 σ H1 _ I1 q1) λu s2 ⟨y,H2,I2,r2,q2⟩=>
  thn (ho pins s2 σ H2 x y v u _ I2 r1 r2 q2) λc s3 ⟨z,H3,I3,r3,k,e,q3⟩=>?_) hm
 subst e;cases r3;exact cz ⟨H3,I3,q3⟩
def Dt(r r':R2)(ta tb tc:TE):TE:=λσ H Q=>ta σ H λx H1=>tb σ H1 λy H2=>r x y H2 λz H3=>∃k,z=.bl k/\
 (if k=true then tc σ H3 λw' H4=>r' y w' H4 Q else Q (.bl false) H3)
theorem GO(ho:OpR X (aS op) r)(ho':OpR X (aS op') r')(ha:PE X a ta)(hb:PE X b tb)(hc:PE X c tc)
  (hm:lastMarks [op,op'] [b,c]=false:=by with_unfolding_all rfl):PE X (.Compare a [op,op'] [b,c] pos) (Dt r r' ta tb tc):=by
 intro pins s σ H Q I h;refine Compare_chain (thn (ha pins s σ H _ I h) λv s1 ⟨x,H1,I1,r1,q1⟩=>chain_link (thn (hb pins s1 σ H1 _ I1 q1) λu s2 ⟨y,H2,I2,r2,q2⟩=>
  thn (ho pins s2 σ H2 x y v u _ I2 r1 r2 q2) λd s3 ⟨z,H3,I3,r3,k,e,q3⟩=>?_)) hm
 subst e;cases r3;refine cz ?_;cases k with
 |false=>exact ite_ff ⟨.bl false,H3,I3,rfl,q3⟩
 |true=>exact ite_tt (chain_last (thn (hc pins s3 σ H3 _ I3 q3) λw' s4 ⟨z',H4,I4,r4,q4⟩=>ho' pins s4 σ H4 y z' u w' Q I4 r2 r4 q4))
theorem GP(ho:OpR X (aS op) r)(ho':OpR X (aS op') r')(ha:PE X a ta)(hb:PE X b tb)(hc:PE X c tc)
  (hm:lastMarks [op,op'] [b,c]=false:=by with_unfolding_all rfl):PT X (.Compare a [op,op'] [b,c] pos) (GN (Dt r r' ta tb tc)):=by
 intro pins s σ H Q I h;refine isTrue_chain (thn (ha pins s σ H _ I h) λv s1 ⟨x,H1,I1,r1,q1⟩=>test_link (thn (hb pins s1 σ H1 _ I1 q1) λu s2 ⟨y,H2,I2,r2,q2⟩=>
  thn (ho pins s2 σ H2 x y v u _ I2 r1 r2 q2) λd s3 ⟨z,H3,I3,r3,k,e,q3⟩=>?_)) hm
 subst e;cases r3;refine cz ?_;cases k with
 |false=>obtain⟨k',e',q'⟩:=q3;cases e';exact ite_ff ⟨H3,I3,q'⟩
 |true=>refine ite_tt (test_last (thn (hc pins s3 σ H3 _ I3 q3) λw' s4 ⟨z',H4,I4,r4,q4⟩=>thn (ho' pins s4 σ H4 y z' u w' _ I4 r2 r4 q4) λd' s5 ⟨z2,H5,I5,r5,k2,e2,q5⟩=>?_));subst e2;cases r5;exact cz ⟨H5,I5,q5⟩
theorem yg:(aB:Nat)<2 ^ 63:=by rw[cE];decide
theorem Du:OpR X (ck .Add) (λx y H Q=>∃i j,x=.str i/\y=.str j/\i.length+j.length<=aB/\Q (.str (i++j)) H):=by intro pins s σ H x y v u Q I rx ry h;obtain⟨i,j,rfl,rfl,hz,q⟩:=h;obtain⟨t,rfl⟩:=rx;obtain⟨t',rfl⟩:=ry;exact add_str (λt' tk=>⟨.str (i++j),H,I.tok _,⟨_,rfl⟩,q⟩) hz
theorem vals1{x:V}(r:Vals [x] us):∃u,us=[u]/\RelV x u:=by
 cases r with
 |cons r1 r2=>cases r2;exact⟨_,rfl,r1⟩
theorem vals2{x:V}(r:Vals [x,y] us):∃u w',us=[u,w']/\RelV x u/\RelV y w':=by
 cases r with
 |cons r1 r2=>
  cases r2 with
  |cons r3 r4=>cases r4;exact⟨_,_,rfl,r1,r3⟩
theorem Fv:qC X (.type "int") (λxs H Q=>(∃i,xs=[.int i]/\Q (.int i) H)\/∃k,xs=[.bl k]/\Q (.int (if k then 1 else 0)) H):=by
 intro pins s σ H xs us Q I r h;rcases h with ⟨i,rfl,q⟩|⟨k,rfl,q⟩
 ·obtain⟨u,rfl,t,rfl⟩:=vals1 r;exact call_int_int ⟨.int i,H,I,⟨_,rfl⟩,q⟩
 ·obtain⟨u,rfl,r1⟩:=vals1 r;cases r1;exact call_int_bool ⟨.int (if k then 1 else 0),H,I.tok _,⟨_,rfl⟩,q⟩
end
structure Dv(h:Heap)(x dx C:Addr)(mA:Str->Option aa):Prop where
 obj:h.get? x=some (dG C dx)
 ns:h.Ns1 dx mA
 ne:dx≠x
variable{dx:Addr}{mA:Str->Option aa}
theorem Fw{h:Heap}(n:h.Ns1 dx mA):∃od,h.get? dx=some od/\∀name,hJ name od=some (mA name):=by
 obtain⟨o,es,ep,ho,hd,hk,_,hm⟩:=n;refine⟨o,ho,λname=>?_⟩;have e:=hm name;unfold nsFind findBy at e;rw[<-Array.find?_toList]at e;unfold hJ;rw[hd];dsimp only;split
 ·rename_i y q;rw[q]at e;exact aX some e
 ·rename_i q;rw[q]at e;have a:es.toList.any (·.refKey)=false:=by rw[List.any_eq_false];intro y hy;obtain⟨z,t,hkey⟩:=hk y (Array.mem_toList_iff.mp hy);simp[DictEntry.refKey,hkey]
  have a':¬es.toList.any (·.refKey)=true:=by rw[a];exact ba
  rw[ai a'];exact aX some e
variable{C:Addr}
theorem Dv.look{h:Heap}{x:Addr}(I:Dv h x dx C mA):∃od,W.InstAt h x (dG C dx) C (some od)/\∀name,hJ name od=some (mA name):=
 let ⟨od,ho,hl⟩:=Fw I.ns
 ⟨od,⟨I.obj,rfl,rfl,ho⟩,hl⟩
variable{kw:List (Str×aa)}
section
variable{prog:ar}{w:aq}{A:aw}{E:aa->ae->Prop}{s:ae}{K:ak}{x dx C f:Addr}{mA:Str->Option aa}{name:Str}{v:aa}
theorem get_map{expr:Bool}(X:K.In s.heap)(I:Dv s.heap x dx C mA)(hg:gW K C name=true)(hh:jm K C=true)
  (ha:cu K (.ref C) name=some none) (hv:mA name=some v) (hv':W.handedIn v=true) (h:Q v { s with toks:=s.toks+1 }):
  af (model prog w) A (getAttr (.ref x) name expr) Q E s:=by
 obtain⟨od,J,hl⟩:=I.look;exact W.get_value X J (i7 hg).1 (W.findObj_own hh ha rfl (by rw[hl,hv])) hv' h
theorem GQ{pl:Sem Bool}{Q:aa×List aa->ae->Prop}(X:K.In s.heap)(I:Dv s.heap x dx C mA)(hg:gW K C name=true)
  (hf:cu K (.ref C) name=some (some (.ref f))) (ht:hX K (.ref f)=true) (hv:mA name=none) (h:Q (.ref f,[.ref x]) s):
  af (model prog w) A (getMethod (.ref x) name pl) Q E s:=by
 obtain⟨od,J,hl⟩:=I.look;exact W.method_fn X J (i7 hg).1 (i7 hg).2 hf (beq_iff_eq.mp ht) (by show (hJ name od).map (·.isSome)=some false;rw[hl,hv];rfl) h
theorem JP{ns:List Str}{Q:Unit->ae->Prop}(X:K.In s.heap)(I:Dv s.heap x dx C mA)
  (hs:cu K (.ref C) "__setattr__" = some (some (.builtin "object.__setattr__"))) (hp:mC K C=true) (ht:jz K C name=some none) (hh:jm K C=true)
  (hw:jb mA ns) (hsz:ns.length<=aB)
  (h:∀h',Dv h' x dx C (λy=>if y=name then some v else mA y)->eK dx s.heap h'->Q () { s with heap:=h',toks:=s.toks+2 }):
  af (model prog w) A (setAttr (.ref x) name v) Q E s:=by
 obtain⟨od,J,hl⟩:=I.look;refine W.set_plain X J hs (W.osa_open (s:={ s with toks:=s.toks+1 }) (r:=none) X J hp ht λb=>?_);obtain⟨cd,hc,hd'⟩:=W.any_some hh;have hx:s.heap.get? x=some ⟨.ref C,some dx,.plain,#[]⟩:=I.obj;refine aj (ay (aj (aj (wpAny_loadPart hx (aj (W.Looks.here (s:={ s with toks:=s.toks+1 }) (W.looks_clsIn X hc) ?_))))));rw[hd'];refine ay (a:=some dx) (aj (ay (aj ?_)));refine wpAny_nsSet1 (s:={ s with toks:=s.toks+1 }) I.ns λh' hn2 hs2=>?_;obtain⟨oD,esD,epD,hoD,hdD,hcD⟩:=hn2.count (ot name v hw);refine aj (wpAny_lookBehind hoD (by rw[hdD];exact pastItsLine_dict (bp hcD (by rw[aA];omega))) ?_);exact ay (h _ ⟨(hs2.2 _ (dJ I.ne)).trans I.obj,hn2,I.ne⟩ hs2)
theorem Cm{R:cW->ae->Prop}{vs:List aa}(X:K.In s.heap)(hm:W.makesIn K C=true)
  (hi:cu K (.ref C) "__init__" = some (some (.ref f))) (hf:W.typeIn K (.ref f)=some (.type "function"))
  (h:bY (model prog w) (A.under (.builtin "type.__call__" ⟨.ref C::vs,kw⟩)) (.call (.ref f) ⟨.ref (s.heap.objs.size+1)::vs,kw⟩) (W.InitBack (s.heap.objs.size+1) R)
   { s with heap:=(s.heap.push dh).push (dG C s.heap.objs.size) }):
  bY (model prog w) A (.call (.ref C) ⟨vs,kw⟩) R s:=by
 obtain⟨hh,g,d,t,os⟩:=s;exact W.make_core (W.makes_of X hm) (W.looks_findIn X hi) (λself=>W.bind_fn X self hf) (.inl rfl) h
end
def uB(f:Str)(v:V):List (Str×V)->List (Str×V)
 |[]=>[(f,v)]
 |(g,x)::r=>if g=f then (g,v)::r else (g,x)::uB f v r
theorem yI(f g:Str)(v:V):∀fs:List (Str×V),(uB f v fs).lookup g=if g=f then some v else fs.lookup g
 |[]=>by
  show cF g [(f,v)]=_;by_cases h:g=f
  ·have hb:(g==f)=true:=beq_iff_eq.mpr h;simp only[cF,hb,ah h]
  ·have hb:(g==f)=false:=beq_eq_false_iff_ne.mpr h;simp only[cF,hb,ai h]
 |(k,x)::r=>by
  have ih:=yI f g v r;rw[show uB f v ((k,x)::r)=(if k=f then (k,v)::r else (k,x)::uB f v r) from rfl];by_cases hk:k=f
  ·rw[ah hk];by_cases h:g=k
   ·have hb:(g==k)=true:=beq_iff_eq.mpr h;simp only[cF,hb,ah (h.trans hk)]
   ·have hb:(g==k)=false:=beq_eq_false_iff_ne.mpr h;simp only[cF,hb,ai (λe:g=f=>h (e.trans hk.symm))]
  ·rw[ai hk];by_cases h:g=k
   ·have hb:(g==k)=true:=beq_iff_eq.mpr h;simp only[cF,hb,ai (λe:g=f=>hk (h.symm.trans e))]
   ·have hb:(g==k)=false:=beq_eq_false_iff_ne.mpr h;simp only[cF,hb];exact ih
theorem yh(f:Str)(v:V):∀fs:List (Str×V),f∈(uB f v fs).map (·.1)/\∀g,g∈fs.map (·.1)->g∈(uB f v fs).map (·.1)
 |[]=>⟨by simp[uB],λg h=>by simp at h⟩
 |(k,x)::r=>by
  obtain⟨i1,i2⟩:=yh f v r;rw[show uB f v ((k,x)::r)=(if k=f then (k,v)::r else (k,x)::uB f v r) from rfl];by_cases hk:k=f
  ·rw[ah hk];subst hk;exact⟨by simp,λg h=>by simpa using h⟩
  ·rw[ai hk];refine⟨?_,λg h=>?_⟩
   ·rw[aF];exact aH _ i1
   ·rw[aF]at h ⊢;rcases aP.mp h with e|e
    ·exact aP.mpr (.inl e)
    ·exact aH _ (i2 g e)
theorem yJ(f:Str)(v:V):∀fs:List (Str×V),(uB f v fs).length<=fs.length+1
 |[]=>by simp[uB]
 |(k,x)::r=>by
  have ih:=yJ f v r;rw[show uB f v ((k,x)::r)=(if k=f then (k,v)::r else (k,x)::uB f v r) from rfl];by_cases hk:k=f
  ·rw[ah hk,aA,aA];omega
  ·rw[ai hk,aA,aA];omega
theorem wI.some_of{v:V}{o:Option aa}(r:wI (some v) o):∃u,o=some u/\RelV v u:=by
 cases o with
 |none=>exact(show False from r).elim
 |some u=>exact⟨u,rfl,r⟩
theorem wI.none_of{o:Option aa}(r:wI none o):o=none:=by
 cases o with
 |none=>rfl
 |some u=>exact(show False from r).elim
theorem Fy{v:V}(r:RelV v u):W.handedIn u=true:=by
 cases v with
 |non=>cases (show u=Value.none from r);rfl
 |bl b=>cases (show u=Value.bool b from r);rfl
 |int i=>obtain⟨t,e⟩:=(show ∃t,u=Value.int i t from r);cases e;rfl
 |str x=>obtain⟨t,e⟩:=(show ∃t,u=Value.str x t from r);cases e;rfl
 |byt b=>obtain⟨t,e⟩:=(show ∃t,u=Value.bytes b t from r);cases e;rfl
 |flt b=>obtain⟨t,e⟩:=(show ∃t,u=Value.float b t from r);cases e;rfl
 |ref a=>cases (show u=Value.ref a from r);rfl
 |ty n=>cases (show u=Value.type n from r);rfl
section
variable{P:ar}{w:aq}{H H':Hp}{h h':Heap}{a C dx:Addr}{fs fs':List (Str×V)}
theorem uR(hok:HOk P w H h)(e:H a=some (.ins C dx fs)):∃mA,Dv h a dx C mA/\(∀f,wI (fs.lookup f) (mA f))/\jb mA (fs.map (·.1))/\fs.length<=1000/\H dx=some (.own a):=by obtain⟨d,z,ne,ob,mA,n,r,q⟩:=(show p9 P w H h a (.ins C dx fs) from hok a _ e);exact⟨mA,⟨ob,n,ne⟩,r,q,z,d⟩
end
structure Cls(K:ak)(C:Addr):Prop where
 pg:gW K C Str.empty=true
 hd:jm K C=true
 po:mC K C=true
 sa:cu K (.ref C) "__setattr__" = some (some (.builtin "object.__setattr__"))
theorem Cls.get{K:ak}(c:Cls K C)(f:Str):gW K C f=true:=c.pg
def tE(K:ak)(C:Addr)(f:Str):Prop:=cu K (.ref C) f=some none
theorem tE.taker{K:ak}{f:Str}(n:tE K C f):jz K C f=some none:=by unfold jz;rw[show cu K (.ref C) f=some none from n];rfl
structure Meth(K:ak)(C:Addr)(m:Str)(f:Addr):Prop where
 at_:cu K (.ref C) m=some (some (.ref f))
 fn:hX K (.ref f)=true
 kp:cH K (.ref f)=true
section
variable{X:Cx}{pins:List (Addr×Obj)}{σ:St}{H:Hp}{s:ae}{a C dx:Addr}{fs:List (Str×V)}{f:Str}{v:V}{A:aw}{E:aa->ae->Prop}
theorem Dw{b:Bool}(I:Inv X pins σ H s)(e:H a=some (.ins C dx fs))(c:Cls X.K C)(n:tE X.K C f)(l:fs.lookup f=some v)
  (h:∀u s',Inv X pins σ H s'->RelV v u->Q u s'):af (model X.prog X.w) A (getAttr (.ref a) f b) Q E s:=by
 obtain⟨mA,O,r,_,_,_⟩:=uR I.hok e;obtain⟨u,hu,ru⟩:=wI.some_of (v:=v) (o:=mA f) (by rw[<-l];exact r f);exact get_map I.kIn O (c.get f) c.hd n hu (Fy ru) (h u _ (I.tok _) ru)
theorem zu{m:Str}{g:Addr}{pl:Sem Bool}{Q:aa×List aa->ae->Prop}(I:Inv X pins σ H s)(e:H a=some (.ins C dx fs))(c:Cls X.K C)(k:Meth X.K C m g)(l:fs.lookup m=none)
  (h:Q (.ref g,[.ref a]) s):af (model X.prog X.w) A (getMethod (.ref a) m pl) Q E s:=by
 obtain⟨mA,O,r,_,_,_⟩:=uR I.hok e;have hn:mA m=none:=wI.none_of (by rw[<-l];exact r m);exact GQ I.kIn O (c.get m) k.at_ k.fn hn h
theorem Dy{Q:Unit->ae->Prop}(I:Inv X pins σ H s)(e:H a=some (.ins C dx fs))(c:Cls X.K C)(n:tE X.K C f)(hl:fs.length<1000)(ry:RelV y u)
  (h:∀s',Inv X pins σ (upd H a (.ins C dx (uB f y fs))) s'->Q () s'):af (model X.prog X.w) A (setAttr (.ref a) f u) Q E s:=by
 obtain⟨mA,O,r,wi,_,ho⟩:=uR I.hok e;have hz:(fs.map (·.1)).length<=aB:=by rw[ag,cE];omega
 refine JP I.kIn O c.sa c.po n.taker c.hd wi hz λh' O' sb=>h _ ?_;have hd:∃o,h'.get? dx=some o:=let ⟨o,_,_,e',_⟩:=O'.ns;⟨o,e'⟩;refine I.write (x:=a) (e:=dx) (by rw[e];exact True.intro) (.inr ho) (λb q hb z=>(sb.2 b hb).trans z) hd ?_;refine⟨by rw[o3 O.ne];exact ho,?_,O.ne,O'.obj,_,O'.ns,λg=>?_,λg hg=>?_⟩
 ·have:=yJ f y fs;omega
 ·show wI ((uB f y fs).lookup g) (if g=f then some u else mA g);rw[yI];by_cases q:g=f
  ·rw[ah q,ah q];exact ry
  ·rw[ai q,ai q];exact r g
 ·by_cases q:g=f
  ·rw[q];exact(yh f y fs).1
  ·refine(yh f y fs).2 g (wi g λz=>hg ?_);show (if g=f then some u else mA g)=none;rw[ai q];exact z
theorem Inv.made(I:Inv X pins σ H s):Inv X pins σ (upd (upd H s.heap.objs.size (.own (s.heap.objs.size+1))) (s.heap.objs.size+1) (.ins C s.heap.objs.size []))
  { s with heap:=(s.heap.push dh).push (dG C s.heap.objs.size) }:=by
 have e1:(s.heap.push dh).get? s.heap.objs.size=some dh:=bB s.heap rfl;have e2:((s.heap.push dh).push (dG C s.heap.objs.size)).get? (s.heap.objs.size+1)=some (dG C s.heap.objs.size):=by
  have:=bB (s.heap.push dh) (o:=dG C s.heap.objs.size) rfl
  rwa [eI]at this
 have e3:(s.heap.push dh).Ns s.heap.objs.size (λ_=>none):=⟨dh,#[],_,e1,rfl,(λe he=>ao he (by simp)),λ_=>rfl⟩;have I1:=I.laid (a:=s.heap.objs.size) (o:=.own (s.heap.objs.size+1)) (h':=s.heap.push dh) (t':=s.toks) (λb u q=>aM _ q) (aC _) ⟨_,e1⟩;refine I1.laid (a:=s.heap.objs.size+1) (o:=.ins C s.heap.objs.size []) (t':=s.toks) (λb u q=>aM _ q) (mh (eI _ _)) ?_;have ne:s.heap.objs.size≠s.heap.objs.size+1:=aW (dW _);refine⟨by rw[o3 ne,oZ],cb _,ne,e2,λ_=>none,(Heap.Ns1.of_empty e3).at λo q=>aM _ q,λ_=>True.intro,λy hy=>ao rfl hy⟩
theorem JQ{prog:ar}{w:aq}{env:Env}{f:Str}{s:ae}(hb:dY e f env (eval e env)=eval e env)
  (h:af (model prog w) A (eval e env) (λo s₁=>af (model prog w) A (getAttr o f true) Q E s₁) E s):af (model prog w) A (eval (.Attribute e f pos) env) Q E s:=
 Attribute_any_ h (by rw[arm_eval_Attribute,hb])
end
def Sf(K:ak)(ta:TE)(f:Str):TE:=λσ H Q=>ta σ H λx H1=>∃a C dx fs v,x=.ref a/\H1 a=some (.ins C dx fs)/\Cls K C/\tE K C f/\fs.lookup f=some v/\Q v H1
def QB(K:ak)(ta tv:TE)(f:Str):TS:=λD σ H=>tv σ H λy H1=>ta σ H1 λx H2=>∃a C dx fs,x=.ref a/\H2 a=some (.ins C dx fs)/\Cls K C/\tE K C f/\fs.length<1000/\
 D.nx σ (upd H2 a (.ins C dx (uB f y fs)))
section
variable{X:Cx}{o e value:Expr}{f:Str}{pos pos' tpos:Pos}{ta tv:TE}
theorem M6(he:PE X e ta)(hb:dY e f X.env (eval e X.env)=eval e X.env):PE X (.Attribute e f pos) (Sf X.K ta f):=by intro pins s σ H Q I h;refine JQ hb (thn (he pins s σ H _ I h) λu s1 zz=>?_);obtain⟨x,H1,I1,rx,a,C,dx,fs,v,ex,ea,c,n,l,q⟩:=zz;subst ex;obtain rfl:u=Value.ref a:=rx;exact Dw I1 ea c n l λu' s2 I2 ru=>⟨v,H1,I2,ru,q⟩
theorem M7(ha:PE X o ta)(hv:PE X value tv)(hs:cj value (some (.Attribute o f pos')) pos.line X.env=pure false):PS X (.Assign [.Attribute o f pos'] value pos) (QB X.K ta tv f):=by intro pins s σ H D I h;refine plainObj_wpAny_Assign_Attribute (thn (hv pins s σ H _ I h) λu s1 ⟨y,H1,I1,ry,q⟩=>thn (ha pins s1 σ H1 _ I1 q) λov s2 zz=>?_) hs;obtain⟨x,H2,I2,rx,a,C,dx,fs,ex,ea,c,n,l,q2⟩:=zz;subst ex;obtain rfl:ov=Value.ref a:=rx;exact Dy I2 ea c n l ry λs3 I3=>⟨σ,_,I3,q2⟩
end
section
variable{X:Cx}{pins:List (Addr×Obj)}{σ:St}{H:Hp}{s:ae}{A:aw}{E:aa->ae->Prop}{Q:aa->ae->Prop}{c:aa}{b:Bool}
inductive y9(K:ak) (H:Hp):V->aa->Prop where
 |non:y9 K H .non (.type "NoneType")
 |bl (x:Bool):y9 K H (.bl x) (.type "bool")
 |int (i:Int):y9 K H (.int i) (.type "int")
 |str (x:Str):y9 K H (.str x) (.type "str")
 |flt (x:UInt64):y9 K H (.flt x) (.type "float")
 |lst {a:Addr} {xs:List V} (e:H a=some (.lst xs)):y9 K H (.ref a) (.type "list")
 |frz {a:Addr} {o:Obj} {xs:List V} (e:H a=some (.frz o (.lst xs))):y9 K H (.ref a) (.type "list")
 |tup {a:Addr} {xs:List V} (e:H a=some (.tup xs)):y9 K H (.ref a) (.type "tuple")
 |dK {a:Addr} {kvs:List (Key×V)} (e:H a=some (.dK kvs)):y9 K H (.ref a) (.type "dict")
 |dT {a:Addr} {kvs:List (List Key×V)} (e:H a=some (.dT kvs)):y9 K H (.ref a) (.type "dict")
 |ins {a C dx:Addr} {fs:List (Str×V)} (e:H a=some (.ins C dx fs)) (cl:Cls K C) (ha:cu K (.ref C) "__class__" = some (some (.builtin "object.__class__")))
   (hn:mD K (.builtin "object.__class__") "__get__" = some (some (.builtin "getset_descriptor.__get__"))) (htk:W.takesIn K (.builtin "object.__class__")=some true)
   (hm:W.mroIn K C (.type "object")=some true):y9 K H (.ref a) (.ref C)
theorem sZ{x:V}{t:aa}(I:Inv X pins σ H s)(rx:RelV x u)(ty:y9 X.K H x t)(e:cv X.K t c=some b)(h:∀tk,Q (.bool b) { s with toks:=tk }):
  af (model X.prog X.w) A (call (.builtin "isinstance") [u,c]) Q E s:=by
 cases ty with
 |non=>cases (show u=Value.none from rx);exact cc W.kitx_none I.kIn True.intro e (λz=>nomatch z) h
 |bl y=>cases (show u=Value.bool y from rx);exact cc W.kitx_bool I.kIn True.intro e (λz=>nomatch z) h
 |int i=>obtain⟨t,q⟩:=(show ∃t,u=Value.int i t from rx);cases q;exact cc W.kitx_int I.kIn True.intro e (λz=>nomatch z) h
 |str y=>obtain⟨t,q⟩:=(show ∃t,u=Value.str y t from rx);cases q;exact cc W.kitx_str I.kIn True.intro e (λz=>nomatch z) h
 |flt y=>obtain⟨t,q⟩:=(show ∃t,u=Value.float y t from rx);cases q;exact cc W.kitx_float I.kIn True.intro e (λz=>nomatch z) h
 |@lst a xs ea=>cases (show u=Value.ref a from rx);obtain⟨_,_,n,_,h1⟩:=(show p9 X.prog X.w H s.heap a (.lst xs) from I.hok a _ ea);exact cc jn I.kIn ⟨_,h1,rfl⟩ e (λz=>nomatch z) h
 |@frz a ob xs ea=>cases (show u=Value.ref a from rx);obtain⟨_,_,_,n,_,h1⟩:=(show p9 X.prog X.w H s.heap a (.frz ob (.lst xs)) from I.hok a _ ea);exact cc jn I.kIn ⟨_,h1,rfl⟩ e (λz=>nomatch z) h
 |@tup a xs ea=>cases (show u=Value.ref a from rx);obtain⟨_,_,_,p⟩:=(show p9 X.prog X.w H s.heap a (.tup xs) from I.hok a _ ea);obtain⟨o,h1,h2,_⟩:=p;exact cc mi I.kIn ⟨o,h1,h2⟩ e (λz=>nomatch z) h
 |@dK a kvs ea=>cases (show u=Value.ref a from rx);obtain⟨_,_,vs,_,p⟩:=(show p9 X.prog X.w H s.heap a (.dK kvs) from I.hok a _ ea);obtain⟨o,es,ep,h1,h2,_⟩:=p;exact cc jo I.kIn ⟨o,h1,h2.1⟩ e (λz=>nomatch z) h
 |@dT a kvs ea=>cases (show u=Value.ref a from rx);obtain⟨_,_,xs,_,o,es,ep,h1,h2,_⟩:=(show p9 X.prog X.w H s.heap a (.dT kvs) from I.hok a _ ea);exact cc jo I.kIn ⟨o,h1,h2.1⟩ e (λz=>nomatch z) h
 |@ins a C dx fs ea cl ha hn htk hm=>cases (show u=Value.ref a from rx);obtain⟨mA,O,_⟩:=uR I.hok ea;obtain⟨od,J,_⟩:=O.look;exact cc (W.kitx_own (cl.get _) cl.hd ha hn htk hm) I.kIn J e (λz=>nomatch z) h
end
structure qg(k:Nat)(A:aw):Prop where
 hd:A.handled=none
 dp:A.depth+3 * k+5<recursionLimit
 un:A.units+16 * k+200<cLine
theorem qg.mono{k:Nat}{A:aw}(r:qg k A)(h:j<=k):qg j A:=⟨r.hd,by have:=r.dp;omega,by have:=r.un;omega⟩
theorem qg.deeper{k:Nat}{A:aw}(r:qg (k+1) A)(env:Env):qg k (A.deeper env):=
 ⟨r.hd,by have:=r.dp;show A.depth+1+3 * k+5<_;omega,by have:=r.un;show A.units+3+16 * k+200<_;omega⟩
theorem DA{A:aw}:(A.under (.builtin "type.__call__" ⟨.ref C::us,kw⟩)).depth=A.depth+1:=by
 first|rfl|simp[jd,Code.weight,Code.isCreation,Code.isGuard,Code.isCaller,mE,je,guardIds]
theorem DB{A:aw}:(A.under (.builtin "type.__call__" ⟨.ref C::us,kw⟩)).units=A.units+1:=by
 first|rfl|simp[jd,Code.cUnits,mE,je]
theorem qg.make{k:Nat}{A:aw}(r:qg (k+1) A)(C:Addr)(us:List aa)(kw:List (Str×aa)):qg k (A.under (.builtin "type.__call__" ⟨.ref C::us,kw⟩)):=
 ⟨r.hd,by have:=r.dp;rw[DA];omega,by have:=r.un;rw[DB];omega⟩
theorem qg.depth{k:Nat}{A:aw}(r:qg k A):A.depth<recursionLimit:=by have:=r.dp;omega
theorem qg.units{k:Nat}{A:aw}(r:qg k A):A.units+64<cLine:=by have:=r.un;omega
def Cn:TA:=λ_ H Q=>Q [] H
def zv(ta:TE)(tr:TA):TA:=λσ H Q=>ta σ H λx H1=>tr σ H1 λxs H2=>Q (x::xs) H2
section
variable{X:Cx}{e:Expr}{es:List Expr}{te:TE}{t:TA}{pos:Pos}
theorem uS:PA X [] Cn:=λ_ _ _ _ H Q I h=>iK ⟨[],H,I,.nil,h⟩
theorem rH(ha:PE X e te)(hr:PA X es t)(hs:az (e::es) X.env=(false,eval e X.env)::az es X.env:=by rfl):PA X (e::es) (zv te t):=by intro pos pins s σ H Q I h;rw[hs];show af _ _ (spliced ((false,eval e X.env)::aZ pos (az es X.env))) _ _ s;refine gj (thn (ha pins s σ H _ I h) λu s1 zz=>?_);obtain⟨x,H1,I1,r1,q1⟩:=zz;exact thn (hr pos pins s1 σ H1 _ I1 q1) λus s2 ⟨xs,H2,I2,r2,q2⟩=>⟨x::xs,H2,I2,.cons r1 r2,q2⟩
def Sg(t:TA):TE:=λσ H Q=>t σ H λxs H1=>xs.length<=aB/\∀p,H1 p=none->Q (.ref p) (upd H1 p (.tup xs))
def QC(t:TA):TE:=λσ H Q=>t σ H λxs H1=>xs.length<=aB/\∀p,H1 p=none->Q (.ref p) (upd H1 p (.lst xs))
theorem M8{x1}(h:PA X es t):PE X (.Tuple es x1 pos) (Sg t):=by intro pins s σ H Q I hq;refine wpAny_Tuple_spliced (thn (h pos pins s σ H _ I hq) λus s1 ⟨xs,H1,I1,r,z,q⟩=>⟨by rw[<-r.length];exact z,?_⟩);have hf:H1 s1.heap.objs.size=none:=I1.hok.fresh (aC _);refine⟨.ref s1.heap.objs.size,upd H1 s1.heap.objs.size (.tup xs),I1.laid (t':=s1.toks) (λb u e=>aM _ e) (aC _) ?_,rfl,q _ hf⟩;exact⟨z,us,r,⟨_,bB _ rfl,rfl,_,rfl⟩⟩
theorem GR(h:PA X es t):PE X (.List es pos) (QC t):=by intro pins s σ H Q I hq;refine wpAny_List_spliced (thn (h pos pins s σ H _ I hq) λus s1 ⟨xs,H1,I1,r,z,q⟩=>⟨by rw[<-r.length];exact z,?_⟩);have hf:H1 s1.heap.objs.size=none:=I1.hok.fresh (aC _);refine⟨.ref s1.heap.objs.size,upd H1 s1.heap.objs.size (.lst xs),I1.laid (t':=s1.toks) (λb u e=>aM _ e) (aC _) ?_,rfl,q _ hf⟩;exact⟨z,us,0,r,bB _ rfl⟩
end
abbrev Sp:=List V->Hp->VK->XK->Prop
abbrev CXT:=List Env->Hp->ae->XK->aa->ae->Prop
structure DD(P:ar)(w:aq)(K:ak)(mg:Str->Option aa)(base:Heap)(A:aw)(outer:List Env)(s:ae)(H:Hp):Prop where
 frames:A.frames=some outer
 mod:Mod K mg base
 bs:∀b o,base.get? b=some o->s.heap.get? b=some o/\H b=none
 bsz:base.objs.size<=s.heap.objs.size
 funs:s.heap.FunFrames base outer
 frf:∀b∈frs outer,H b=none
 hok:HOk P w H s.heap
 bare:cU s.gens
def CE(outer:List Env)(P:ar)(w:aq)(H:Hp)(s:ae)(Q:VK)(u:aa)(s':ae):Prop:=
 ∃v H',s'.os=s.os/\cU s'.gens/\Un (frs outer) [] H H' s.heap s'.heap/\HOk P w H' s'.heap/\RelV v u/\Q v H'
def CR(CX:CXT)(outer:List Env)(P:ar)(w:aq)(H:Hp)(s:ae)(Q:VK)(E:XK)(r:cW)(s':ae):Prop:=
 match r with
 |.ok (.ret u)=>CE outer P w H s Q u s'
 |.ok _=>False
 |.error e=>CX outer H s E e s'
structure rJ(P:ar)(w:aq)(K:ak)(mg:Str->Option aa)(base:Heap)(CX:CXT)(k:Nat)(f:Addr)(fd:bA)(ps:List Str)(sp:Sp):Prop where
 len:∀vs H Q E,sp vs H Q E->vs.length=ps.length
 run:∀(A:aw) (outer:List Env) (s:ae) (H:Hp) (args:Args) (us:List aa) (vs:List V) (Q:VK) (E:XK),qg k A->DD P w K mg base A outer s H->eS s fd args (ps.zip us)->Vals vs us->sp vs H Q E->
  bY (model P w) A (.call (.ref f) args) (CR CX outer P w H s Q E) s
variable{mg:Str->Option aa}{base:Heap}{CX:CXT}{fd:bA}{ps:List Str}{sp:Sp}
theorem rJ.imp{P:ar}{w:aq}{K:ak}{k:Nat}{f:Addr}{sp':Sp}(F:rJ P w K mg base CX k f fd ps sp)
  (h:∀vs H Q E,sp' vs H Q E->sp vs H Q E):rJ P w K mg base CX k f fd ps sp':=
 ⟨λvs H Q E q=>F.len vs H Q E (h _ _ _ _ q),λA outer s H args us vs Q E hr he hb hv hs=>F.run A outer s H args us vs Q E hr he hb hv (h _ _ _ _ hs)⟩
variable{outer:List Env}
theorem DD.make{P:ar}{w:aq}{K:ak}{A:aw}{s:ae}{H:Hp}(e:DD P w K mg base A outer s H)(C:Addr)(us:List aa)(kw:List (Str×aa)):
  DD P w K mg base (A.under (.builtin "type.__call__" ⟨.ref C::us,kw⟩)) outer s H:=⟨by first|exact e.frames|(simpa [jd,Code.envs,je,pushEnvs]using e.frames),e.mod,e.bs,e.bsz,e.funs,e.frf,e.hok,e.bare⟩
section
variable{X:Cx}{pins:List (Addr×Obj)}{σ:St}{H:Hp}{s s':ae}
theorem Inv.env0(I:Inv X pins σ H s):DD X.prog X.w X.K X.mg X.base X.A X.stack s H:=
 ⟨I.ok.frames,I.ok.mod,I.bs,bp I.ok.bsz I.sz,I.stack,I.stkFree,I.hok,I.bare⟩
theorem Inv.after{Q:VK}(I:Inv X pins σ H s)(h:CE X.stack X.prog X.w H s Q u s'):EP X pins σ Q u s':=by obtain⟨v,H',os,bare,un,hok,r,q⟩:=h;obtain⟨hh,g,d,t,os'⟩:=s';obtain rfl:os'=s.os:=os;exact⟨v,H',I.call (h':=hh) (g':=g) (d':=d) (t':=t) (ch:=[]) un hok bare (λb z=>ao z (by simp)),r,q⟩
end
def wN(sp:Sp)(dvs:List V)(E:XK)(t:TA):TE:=λσ H Q=>t σ H λvs H1=>sp (vs++dvs) H1 Q E
def Ep(C:Addr)(sp:Sp)(dvs:List V)(E:XK)(t:TA):TE:=λσ H Q=>t σ H λvs H1=>∀x dx,H1 x=none->H1 dx=none->dx≠x->
 sp (.ref x::(vs++dvs)) (upd (upd H1 dx (.own x)) x (.ins C dx [])) (λv H2=>v=.non/\Q (.ref x) H2) E
def Binds(K:ak)(fd:bA)(ps:List Str)(ds:List aa):Prop:=
 ∀(s:ae) (us:List aa),K.In s.heap->(us++ds).length=ps.length->eS s fd ⟨us,[]⟩ (ps.zip (us++ds))
theorem Binds.all{K:ak}(h:∀us:List aa,us.length=ps.length->bindArgs fd ⟨us,[]⟩=pure (ps.zip us)):Binds K fd ps []:=λs us _ hl=>by rw[bH]at hl ⊢;exact .of_eq (h us hl)
def Passes(CX:CXT)(X:Cx)(E:XK):Prop:=∀(pins:List (Addr×Obj)) (σ:St) (H:Hp) (s:ae) (e:aa) (s':ae),Inv X pins σ H s->CX X.stack H s E e s'->X.xe e s'
section
variable{X:Cx}{CX:CXT}{k:Nat}{f C:Addr}{fd:bA}{ps:List Str}{sp:Sp}{dvs:List V}{ds:List aa}{E:XK}{x m:Str}{p pos apos:Pos}{e o:Expr}{es:List Expr}{ta:TE}{t:TA}
theorem Bw{H:Hp}{s:ae}{Q:VK}{vs:List V}(F:rJ X.prog X.w X.K X.mg X.base CX k f fd ps sp)(hr:qg k X.A)(hb:Binds X.K fd ps ds)(hd:Vals dvs ds)(hx:Passes CX X E)
  (I:Inv X pins σ H s) (r:Vals vs us) (h:sp (vs++dvs) H Q E):af (model X.prog X.w) X.A (call (.ref f) us) (EP X pins σ Q) X.xe s:=by
 have r2:Vals (vs++dvs) (us++ds):=r.append hd;have hl:(us++ds).length=ps.length:=by rw[<-r2.length];exact F.len _ _ _ _ h
 refine gX (d0 (F.run X.A X.stack s H ⟨us,[]⟩ (us++ds) (vs++dvs) Q E hr I.env0 (hb s us I.kIn hl) r2 h) λr s' hq=>?_);cases r with
 |error e=>exact hx pins σ H s e s' I hq
 |ok fl=>
  cases fl with
  |ret u=>exact I.after hq
  |next=>exact bU hq
  |brk=>exact bU hq
  |cont=>exact bU hq
theorem xp(F:rJ X.prog X.w X.K X.mg X.base CX k f fd ps sp)(hr:qg k X.A)(hg:Gl X x)(hm:X.mg x=some (.ref f))(hk:cH X.K (.ref f)=true)(hb:Binds X.K fd ps ds)(hd:Vals dvs ds)(hx:Passes CX X E)
  (ha:PA X (e::es) t) (hdb:(x==("__debug__" : Str))=false:=by decide) (he:az (e::es) X.env=(false,eval e X.env)::az es X.env:=by rfl) (hpl:(aZ pos (az es X.env)).any (·.1)=false:=by rfl):
  PE X (.Call (.Name x p) (e::es) [] pos) (wN sp dvs E t):=by
 intro pins s σ H Q I h;refine dv (uQ I hg hm ?_ hdb);refine gH (h₀:=X.base) I.ok.mod.kin hk (thn (ha pos pins s σ H _ I h) λus s1 ⟨vs,H1,I1,r,q⟩=>⟨I1.kIn,?_⟩) he hpl;exact Bw F hr hb hd hx I1 r q
theorem GT(F:rJ X.prog X.w X.K X.mg X.base CX k f fd ps sp)(hr:qg k X.A)(hg:Gl X x)(hm:X.mg x=some (.ref f))(hk:cH X.K (.ref f)=true)(hb:Binds X.K fd ps ds)(hd:Vals dvs ds)(hx:Passes CX X E)
  (hdb:(x==("__debug__" : Str))=false:=by decide):PE X (.Call (.Name x p) [] [] pos) (wN sp dvs E Cn):=by
 intro pins s σ H Q I h;refine dv (uQ I hg hm ?_ hdb);exact lZ I.kIn hk (Bw (us:=[]) F hr hb hd hx I .nil h)
structure Mk(K:ak)(C f:Addr):Prop where
 makes:W.makesIn K C=true
 init:cu K (.ref C) "__init__" = some (some (.ref f))
 fn:hX K (.ref f)=true
 kp:cH K (.ref C)=true
theorem GU{H:Hp}{s:ae}{Q:VK}{vs:List V}(M:Mk X.K C f)(F:rJ X.prog X.w X.K X.mg X.base CX k f fd ps sp)(hr:qg (k+1) X.A)(hb:Binds X.K fd ps ds)(hd:Vals dvs ds)
  (hx:Passes CX X E) (I:Inv X pins σ H s) (r:Vals vs us)
  (h:∀x dx,H x=none->H dx=none->dx≠x->sp (.ref x::(vs++dvs)) (upd (upd H dx (.own x)) x (.ins C dx [])) (λv H2=>v=.non/\Q (.ref x) H2) E):
  af (model X.prog X.w) X.A (call (.ref C) us) (EP X pins σ Q) X.xe s:=by
 have hq:=h (s.heap.objs.size+1) s.heap.objs.size (I.hok.fresh (gS _)) (I.hok.fresh (aC _)) (aW (dW _));have I2:=Inv.made (C:=C) I;have r2:Vals (V.ref (s.heap.objs.size+1)::(vs++dvs)) (Value.ref (s.heap.objs.size+1)::(us++ds)):=.cons rfl (r.append hd);have hl:(Value.ref (s.heap.objs.size+1)::us++ds).length=ps.length:=by have e:=r2.length;rw[F.len _ _ _ _ hq]at e;exact e.symm
 refine gX (Cm (f:=f) I.kIn M.makes M.init (beq_iff_eq.mp M.fn) (d0 (F.run _ X.stack _ _ ⟨Value.ref (s.heap.objs.size+1)::us,[]⟩ (Value.ref (s.heap.objs.size+1)::(us++ds)) _ _ E (hr.make C us [])
  (I2.env0.make C us []) (hb _ (Value.ref (s.heap.objs.size+1)::us) I2.kIn hl) r2 hq) λr s' hq'=>?_))
 cases r with
 |error e=>exact hx pins σ _ _ e s' I2 hq'
 |ok fl=>
  cases fl with
  |ret u=>obtain⟨v,H',I3,rv,ev,q3⟩:=I2.after hq';subst ev;exact⟨rv,⟨V.ref (s.heap.objs.size+1),H',I3,rfl,q3⟩⟩
  |next=>exact bU hq'
  |brk=>exact bU hq'
  |cont=>exact bU hq'
theorem JR(M:Mk X.K C f)(F:rJ X.prog X.w X.K X.mg X.base CX k f fd ps sp)(hr:qg (k+1) X.A)(hg:Gl X x)(hm:X.mg x=some (.ref C))(hb:Binds X.K fd ps ds)(hd:Vals dvs ds)(hx:Passes CX X E)
  (ha:PA X (e::es) t) (hdb:(x==("__debug__" : Str))=false:=by decide) (he:az (e::es) X.env=(false,eval e X.env)::az es X.env:=by rfl) (hpl:(aZ pos (az es X.env)).any (·.1)=false:=by rfl):
  PE X (.Call (.Name x p) (e::es) [] pos) (Ep C sp dvs E t):=by
 intro pins s σ H Q I h;refine dv (uQ I hg hm ?_ hdb);refine gH (h₀:=X.base) I.ok.mod.kin M.kp (thn (ha pos pins s σ H _ I h) λus s1 ⟨vs,H1,I1,r,q⟩=>⟨I1.kIn,?_⟩) he hpl;exact GU M F hr hb hd hx I1 r q
end
structure qt(N P:List Str)(sc:bZ):Prop where
 kind:sc.kind=.function
 co:sc.isCoroutine=false
 gen:sc.isGenerator=false
 nd:N.Nodup
 pre:N.take P.length=P
 par:∀x∈P,sc.names.lookup x=some .local\/sc.names.lookup x=some .cell
 nofree:∀y∈sc.names,y.2≠.free
theorem AM{kindOf:Str->Option cR}{x:Str}:∀{binds:List (Str×aa)} {m:Str->Option aa},(∀v,(x,v)∉binds)->bindL kindOf binds m x=m x
 |[],_,_=>rfl
 |(n,v)::r,m,h=>by
  unfold bindL;rw[AM λw hw=>h w (aH _ hw)];split
  ·have:x≠n:=by rintro rfl;exact h v aG
   simp[this]
  ·rfl
theorem AN{kindOf:Str->Option cR}{x:Str}:∀{binds:List (Str×aa)} {m:Str->Option aa},(∀v,(x,v)∉binds)->bindC kindOf binds m x=m x
 |[],_,_=>rfl
 |(n,v)::r,m,h=>by
  unfold bindC;rw[AN λw hw=>h w (aH _ hw)];split
  ·rfl
  ·have:x≠n:=by rintro rfl;exact h v aG
   simp[this]
theorem AO{kindOf:Str->Option cR}{x:Str}{v:aa}:∀{P:List Str} {vs:List aa} {i:Nat} {m:Str->Option aa},P.Nodup->P[i]?=some x->vs[i]?=some v->kindOf x=some .local->
  bindL kindOf (P.zip vs) m x=some v
 |[],_,_,_,_,h,_,_=>by simp at h
 |_::_,[],_,_,_,_,h,_=>by simp at h
 |p::P,w::vs,0,m,nd,h1,h2,hk=>by simp at h1 h2;subst h1;subst h2;show bindL kindOf ((p,w)::P.zip vs) m p=_;unfold bindL;rw[AM λv hv=>(dD.mp nd).1 (gw hv).1,ah hk];simp
 |p::P,w::vs,i+1,m,nd,h1,h2,hk=>by show bindL kindOf ((p,w)::P.zip vs) m x=_;unfold bindL;exact AO (i:=i) (dD.mp nd).2 (by simpa using h1) (by simpa using h2) hk
theorem AQ{kindOf:Str->Option cR}{x:Str}{v:aa}:∀{P:List Str} {vs:List aa} {i:Nat} {m:Str->Option aa},P.Nodup->P[i]?=some x->vs[i]?=some v->kindOf x≠some .local->
  bindC kindOf (P.zip vs) m x=some v
 |[],_,_,_,_,h,_,_=>by simp at h
 |_::_,[],_,_,_,_,h,_=>by simp at h
 |p::P,w::vs,0,m,nd,h1,h2,hk=>by simp at h1 h2;subst h1;subst h2;show bindC kindOf ((p,w)::P.zip vs) m p=_;unfold bindC;rw[AN λv hv=>(dD.mp nd).1 (gw hv).1,ai hk];simp
 |p::P,w::vs,i+1,m,nd,h1,h2,hk=>by show bindC kindOf ((p,w)::P.zip vs) m x=_;unfold bindC;exact AQ (i:=i) (dD.mp nd).2 (by simpa using h1) (by simpa using h2) hk
def start(N:List Str)(vs:List V):St:=vs.map some++gA (N.length - vs.length) none
def By(CX:CXT)(P:ar)(w:aq)(K:ak)(mg:Str->Option aa)(base:Heap)(N:List Str)(qual:Str)(scope:bZ)(f:Addr)(cd:aa)(A:aw)(outer:List Env)(s:ae)(H:Hp)(E:XK):Cx where
 prog:=P
 w:=w
 K:=K
 mg:=mg
 base:=base
 A:=A.deeper (envOfC qual scope s.heap.objs.size f cd)
 N:=N
 s₀:=s
 H₀:=H
 env:=envOfC qual scope s.heap.objs.size f cd
 outer:=outer
 stack:=envOfC qual scope s.heap.objs.size f cd::outer
 ex:=[]
 calm:=true
 fn:=λ_=>true
 pn:=[]
 xe:=λe s'=>af (model P w) (A.deeper (envOfC qual scope s.heap.objs.size f cd)) (leaving (envOfC qual scope s.heap.objs.size f cd) e) (λ_ s''=>CX outer H s E e s'') (λe' s''=>CX outer H s E e' s'') s'
theorem Cp{sc:bZ}{n:Nat}(h:sc.names.lookup x=some .cell):∃c,(cellsFrom n sc.names []).lookup x=some c:=by have q:=kU sc.names n [] (.inl h);exact Option.isSome_iff_exists.mp q
variable{qual:Str}{scope:bZ}
theorem FB{P:ar}{w:aq}{K:ak}{f:Addr}{cd:aa}{A:aw}{s s1:ae}{H:Hp}{E:XK}{vs:List V}
  (S:qt N ps scope) (hd:A.handled=none) (e0:DD P w K mg base A outer s H) (hl:vs.length=ps.length) (r:Vals vs us)
  (x:InCallC s s.heap.objs.size (bindL (envOfC qual scope s.heap.objs.size f cd).kindOf (ps.zip us) λ_=>none) (cellsFrom (s.heap.objs.size+1) scope.names []) (bindC (envOfC qual scope s.heap.objs.size f cd).kindOf (ps.zip us) λ_=>none) s1):
  Inv (By CX P w K mg base N qual scope f cd A outer s H E) [] (start N vs) H s1:=by
 have hpl:ps.length<=N.length:=by have:=aX cP S.pre;rw[bL]at this;omega
 obtain⟨h1,tk,rfl,hk⟩:=x.done;have noA:∀b:Addr,b∉(By CX P w K mg base N qual scope f cd A outer s H E).ex:=λb z=>ao (show b∈([]:List Addr) from z) (by simp);refine⟨⟨e0.mod,S.kind,rfl,rfl,aC _,λy z c h1 h2=>?_,λy hy=>?_,λy c _ h=>?_,λ_=>hd,Around.frames_deeper e0.frames,.inr ⟨rfl,rfl⟩,λb z=>ao z (noA b),e0.bs,e0.bsz,λb _ _=>noA b,λb z=>ao z (noA b),e0.funs,e0.frf⟩,
  rfl,e0.bare,Un.kept hk,⟨_,x.toInCall.ns,λi y v h1 h2 h3=>?_⟩,λy c h=>⟨_,x.cell y c h⟩,e0.hok.fresh (aC _),λy c h=>?_,λp hp=>ao (show p∈([]:List (Addr×Obj)) from hp) (by simp),e0.hok.kept hk,?_⟩
 ·exact name_of_addr x.apart (fq h1) (fq h2)
 ·have hy:scope.names.lookup y=some .cell\/scope.names.lookup y=some .free:=hy;rcases hy with hy|hy
  ·exact Cp hy
  ·exact ao rfl (S.nofree _ (fq hy))
 ·exact gG (x.above y c (fq h))
 ·have hi:i<vs.length:=by
   unfold start at h2;by_cases hi:i<vs.length
   ·exact hi
   ·rw[dr (by simpa using hi)]at h2;rw[f7]at h2;split at h2<;>cases h2
  have ha:vs[i]?=some v:=by
   unfold start at h2;rw[cY (by simpa using hi),aY]at h2;cases e:vs[i]? with
   |none=>rw[e]at h2;cases h2
   |some a=>rw[e]at h2;cases h2;rfl
  obtain⟨u,hu,rv⟩:=r.get ha;have hp:ps[i]?=some y:=by rw[<-S.pre,List.getElem?_take_of_lt (by omega)];exact h1
  have ndP:ps.Nodup:=by rw[<-S.pre];exact S.nd.sublist (kI _ _)
  refine⟨u,rv,?_⟩;rcases S.par y (bF hp)with k|k
  ·exact .inl ⟨k,AO ndP hp hu k⟩
  ·obtain⟨c,e⟩:=Cp (n:=s.heap.objs.size+1) k;refine .inr ⟨.inl k,c,e,?_⟩;have q:=x.cell y c e;rw[AQ ndP hp hu (by show scope.names.lookup y≠_;rw[k];decide)]at q;exact q
 ·exact e0.hok.fresh (gG (x.above y c (fq h)))
 ·unfold start;show _=N.length;rw[au,ag,b8];omega
theorem Cq{P:ar}{w:aq}{K:ak}{k:Nat}{f:Addr}{name:Str}{params:Arguments}{dV kV doc pm cdv ct oc:aa}{an od:Option Addr}
  {osl:Array (Option aa)} (lk:K.lookup f=some ⟨oc,od,.func (dq name qual params body scope dV kV doc pm an cdv ct),osl⟩) (hcd:eR K cdv qual=true) (S:qt N ps scope)
  (len:∀vs H Q E,sp vs H Q E->vs.length=ps.length)
  (hbody:∀(A:aw) (outer:List Env) (s:ae) (H:Hp) (vs:List V) (Q:VK) (E:XK),qg k (A.deeper (envOfC qual scope s.heap.objs.size f cdv))->sp vs H Q E->
   ∃t,PSs (By CX P w K mg base N qual scope f cdv A outer s H E) body t/\t { nx:=λ_ H'=>Q .non H',rt:=Q } (start N vs) H):
  rJ P w K mg base CX (k+1) f (dq name qual params body scope dV kV doc pm an cdv ct) ps sp:=by
 refine⟨len,λA outer s H args us vs Q E hr e0 hb r hsp=>?_⟩;have hl:=len _ _ _ _ hsp;have KX:K.In s.heap:=e0.mod.kin.keeps λb o e=>(e0.bs b o e).1;have lim:s.heap.NoLimit:=e0.mod.nolimit.keeps λb o e=>(e0.bs b o e).1;have hkind:∀y∈ps.zip us,scope.names.lookup y.1=some .local\/(scope.names.lookup y.1=some .cell/\((cellsFrom (s.heap.objs.size+1) scope.names []).lookup y.1).isSome=true):=λ⟨n,v⟩ hy=>by
  rcases S.par n (gw hy).1 with q|q
  ·exact .inl q
  ·exact .inr ⟨q,kU _ _ _ (.inl q)⟩
 refine codeAny_call_function hr.depth (KX _ _ lk) rfl S.co S.gen rfl (W.codeRec_of KX hcd) (hb _ _ _ _ ?_);refine wpAny_newFunctionEnv_cells S.kind hkind λenv he s1 x=>?_;subst he;refine⟨lim.keeps x.toInCall.keep,codeAny_func ?_⟩;obtain⟨t,ht,hq⟩:=hbody A outer s H vs Q E (hr.deeper _) hsp;have I:Inv (By CX P w K mg base N qual scope f cdv A outer s H E) [] (start N vs) H s1:=FB S hr.hd e0 hl r x;refine bz (ht [] s1 (start N vs) H _ I hq) (λfl s' hs=>?_) λe s' hs=>hs;have fin:∀{σ':St} {H':Hp} {v:V} {u:aa},Inv (By CX P w K mg base N qual scope f cdv A outer s H E) [] σ' H' s'->RelV v u->Q v H'->CE outer P w H s Q u s':=
  λ{σ' H' v u} J rv q=>⟨v,H',J.os,J.bare,J.base,J.hok,rv,q⟩
 cases fl with
 |ret u=>obtain⟨v,σ',H',J,rv,q⟩:=hs;exact fin J rv q
 |next=>obtain⟨σ',H',J,q⟩:=hs;exact fin (v:=V.non) (u:=Value.none) J rfl q
 |brk=>obtain⟨_,_,_,q⟩:=hs;exact bU q
 |cont=>obtain⟨_,_,_,q⟩:=hs;exact bU q
section
variable{X:Cx}{x:Str}{p pos:Pos}{e:Expr}{es:List Expr}{t:TA}{id T:String}{r:List V->Hp->VK->Prop}
def tCB(r:List V->Hp->VK->Prop)(t:TA):TE:=λσ H Q=>t σ H λvs H1=>r vs H1 Q
theorem zw(hc:qC X (.builtin id) r)(hg:Gl X x)(hm:X.mg x=none)(hv:cO x=some (.builtin id))(ha:PA X (e::es) t)(hn:x≠"__name__" := by decide)(hdb:(x==("__debug__" : Str))=false:=by decide)
  (he:az (e::es) X.env=(false,eval e X.env)::az es X.env:=by rfl) (hpl:(aZ pos (az es X.env)).any (·.1)=false:=by rfl):PE X (.Call (.Name x p) (e::es) [] pos) (tCB r t):=by
 intro pins s σ H Q I h;refine dv (ye I hg hm hv ?_ hn hdb);exact callWith_builtin1 (thn (ha pos pins s σ H _ I h) λus s1 ⟨vs,H1,I1,r1,q1⟩=>hc pins s1 σ H1 vs us Q I1 r1 q1) he hpl
theorem FC(hc:qC X (.type T) r)(hg:Gl X x)(hm:X.mg x=none)(hv:cO x=some (.type T))(ha:PA X (e::es) t)(hn:x≠"__name__" := by decide)(hdb:(x==("__debug__" : Str))=false:=by decide)
  (he:az (e::es) X.env=(false,eval e X.env)::az es X.env:=by rfl) (hpl:(aZ pos (az es X.env)).any (·.1)=false:=by rfl):PE X (.Call (.Name x p) (e::es) [] pos) (tCB r t):=by
 intro pins s σ H Q I h;refine dv (ye I hg hm hv ?_ hn hdb);exact callWith_type1 (thn (ha pos pins s σ H _ I h) λus s1 ⟨vs,H1,I1,r1,q1⟩=>hc pins s1 σ H1 vs us Q I1 r1 q1) he hpl
end
end L2
namespace HT
open PySem PyProof.Rows
variable{t sl:Addr}{Q:aa->ae->Prop}{vl vu:aa}{lo:Option Int}
section
variable{prog:ar}{w:aq}{A:aw}{E:aa->ae->Prop}{s:ae}
theorem JS{b:Addr}{vs ws:List aa}(ht:eW s.heap t vs.toArray)(hb:eW s.heap b ws.toArray)(hv:vs≠[])
  (h1:ws=[]->Q (.ref t) s) (h2:ws≠[]->Q (.ref s.heap.objs.size) { s with heap:=s.heap.push { cls:=.type "tuple", data:=.seq (vs++ws).toArray } })
  (hsz:vs.length+ws.length<=aB):af (model prog w) A (ck .Add (.ref t) (.ref b)) Q E s:=by
 obtain⟨⟨cls,dd,data,sl⟩,ho,hc,n,hd⟩:=id ht;obtain⟨⟨cls2,dd2,data2,sl2⟩,ho2,hc2,n2,hd2⟩:=id hb;simp only at hc hd hc2 hd2;subst hc hd hc2 hd2;have e:vs.toArray++ws.toArray=(vs++ws).toArray:=by simp
 by_cases hw:ws=[]
 ·exact jf ⟨_,ho,rfl⟩ ⟨_,ho2,rfl⟩ iQ i8 iR iM (iF _ _)
   (tuple_addW1 t b vs.toArray ws.toArray n n2 dd dd2 sl sl2 (by simpa using hv) (by simp[hw])) ⟨ho,ho2,h1 hw⟩
 ·refine jf ⟨_,ho,rfl⟩ ⟨_,ho2,rfl⟩ iQ i8 iR iM (iF _ _)
   (tuple_addW2 t b vs.toArray ws.toArray n n2 dd dd2 sl sl2 (by simpa using hv) (by simpa using hw) (by rw[aR,aR];exact hsz)) ⟨ho,ho2,?_⟩
  rw[e];exact h2 hw
def sIx(n d:Nat):Option Int->Nat
 |none=>d
 |some v=>if v<0 then (v+(n:Int)).toNat else min v.toNat n
theorem GV(n d:Nat):sIx n d none=d:=rfl
theorem JT(n d k:Nat):sIx n d (some (k:Int))=min k n:=by show (if (k:Int)<0 then ((k:Int)+(n:Int)).toNat else min (k:Int).toNat n)=min k n;rw[ai (by omega),gp]
theorem M9(n d:Nat)(hd:d<=n)(o:Option Int):sIx n d o<=n:=by
 cases o with
 |none=>exact hd
 |some v=>
  show (if v<0 then (v+(n:Int)).toNat else min v.toNat n)<=n;by_cases hv:v<0
  ·rw[ah hv];omega
  ·rw[ai hv];exact Nat.min_le_right _ _
theorem Er(v:Int)(n d:Nat):(if v<0 then max (v+(n:Int)) 0 else min v (n:Int))=((sIx n d (some v):Nat):Int):=by
 show (if v<0 then max (v+(n:Int)) 0 else min v (n:Int))=(((if v<0 then (v+(n:Int)).toNat else min v.toNat n):Nat):Int);by_cases hv:v<0
 ·simp only[ah hv];omega
 ·simp only[ai hv];omega
theorem DE(lo hi:Option Int)(n:Nat):ib lo hi 1 (n:Int)=(((sIx n 0 lo:Nat):Int),((sIx n n hi:Nat):Int)):=by
 have h1:¬((1:Int)<0):=by omega
 unfold ib;simp only[h1,if_false];refine Prod.ext ?_ ?_
 ·cases lo with
  |none=>rfl
  |some v=>exact Er v n 0
 ·cases hi with
  |none=>rfl
  |some v=>exact Er v n n
theorem DF(i j:Nat):fY (i:Int) (j:Int) 1=j - i:=by
 unfold fY;have h1:(1:Int) > 0:=by omega
 simp only[h1,if_true,Int.ediv_one];split<;>omega
theorem zx{v:aa}{o:Option Int}{Q:Option Int->ae->Prop}(p:cX v o)(h:Q o s):af (model prog w) A (mK v) Q E s:=by
 cases p with
 |none=>exact lH h
 |int i t=>exact slicePart_int h
theorem uC{hi:Option Int}{n:Nat}{Q:Int×Int×Nat->ae->Prop}(hs:s.heap.IsSliceOf sl vl vu .none)(pl:cX vl lo)(pu:cX vu hi)
  (h:Q (((sIx n 0 lo:Nat):Int),1,sIx n n hi - sIx n 0 lo) s):af (model prog w) A (jE (.ref sl) (pure (n:Int))) Q E s:=by
 obtain⟨os,hos,hcs,hds⟩:=id hs;unfold jE m3;refine aj (aj (jq hos hds (x:=vl) rfl (aj (jq hos hds (x:=vu) rfl (aj (jq hos hds (x:=.none) rfl (ay ?_)))))));refine aj (lH ?_);show af _ _ (if ((1:Int)==0)=true then _ else _) _ _ s;rw[ai (by decide)];refine aj (zx pl (aj (zx pu (aj (ay ?_)))));show af _ _ (match ib lo hi 1 (n:Int)with|(lo,hi)=>pure (lo,(1:Int),fY lo hi 1)) _ _ s;rw[DE lo hi n];show af _ _ (pure (((sIx n 0 lo:Nat):Int),(1:Int),fY ((sIx n 0 lo:Nat):Int) ((sIx n n hi:Nat):Int) 1)) _ _ s;rw[DF];exact ay h
theorem GW(xs:Array aa)(i k:Nat):((aT k).filterMap λ(m:Nat)=>xs[((i:Int)+(m:Int) * 1).toNat]?).toArray=((xs.toList.drop i).take k).toArray:=by
 have e:(λ(m:Nat)=>xs[((i:Int)+(m:Int) * 1).toNat]?)=λm=>xs[i+m]?:=by
  funext m
  have:((i:Int)+(m:Int) * 1).toNat=i+m:=by omega
  rw[this]
 rw[e];have:=pick_run xs i k;rw[List.filterMap_map]at this;have e2:((λx=>xs[x]?)∘λx=>i+x)=λm=>xs[i+m]?:=rfl;rw[e2]at this;rw[this]
theorem xq{items:Array aa}{hi:Option Int}(ht:eW s.heap t items)(hs:s.heap.IsSliceOf sl vl vu .none)(pl:cX vl lo)(pu:cX vu hi)
  (hw:¬(sIx items.size 0 lo=0/\sIx items.size items.size hi=items.size))
  (h:Q (.ref s.heap.objs.size) { s with heap:=s.heap.push { cls:=.type "tuple", data:=.seq ((items.toList.drop (sIx items.size 0 lo)).take (sIx items.size items.size hi - sIx items.size 0 lo)).toArray } })
  (hsz:items.size<=aB):af (model prog w) A (getItem (.ref t) (.ref sl)) Q E s:=by
 have htake:sizeOk (.seq ((items.toList.drop (sIx items.size 0 lo)).take (sIx items.size items.size hi - sIx items.size 0 lo)).toArray):=by show ((items.toList.drop (sIx items.size 0 lo)).take (sIx items.size items.size hi - sIx items.size 0 lo)).toArray.size<=aB;rw[aR,bL,eD,bP];omega
 have hj:sIx items.size items.size hi<=items.size:=M9 _ _ (aC _) hi;obtain⟨os,hos,hcs,hds⟩:=id hs;have hTs:s.TypeIs (.ref sl) "slice" := ⟨os,hos,hcs⟩;unfold getItem
 try with_reducible refine cp ?_
 first|refine aj (ay ?_)|skip
 refine aj (kJ ht.typeIs (by decide) ?_);refine aj (jN (name:=mj "__getitem__") ht.typeIs dM
  (iU dM ht.typeIs kg ?_ (kz _ _)))
 show af _ _ (jF (.ref t)>>=_) _ _ s;refine aj (l0 ht ?_);refine aj (gL hTs ?_);rw[ah (by decide)];refine aj (uC hs pl pu ?_);have hno:¬((((sIx items.size 0 lo:Nat):Int)==0&&(1:Int)==1&&(sIx items.size items.size hi - sIx items.size 0 lo)==items.size)=true):=by intro q;rw[aE,aE]at q;have q1:((sIx items.size 0 lo:Nat):Int)=0:=dH q.1.1;have q2:sIx items.size items.size hi - sIx items.size 0 lo=items.size:=dH q.2;exact hw ⟨by omega,by omega⟩
 show af _ _ (if (((sIx items.size 0 lo:Nat):Int)==0&&(1:Int)==1&&(sIx items.size items.size hi - sIx items.size 0 lo)==items.size)=true then _ else _) _ _ s;rw[ai hno,GW]
 first
  |exact aj (m:=f6 _) (fC (ay ⟨_,rfl,ay h⟩) htake)
  |exact aj (m:=f6 _) (fC (aj (ay (ay ⟨_,rfl,ay h⟩))) htake)
  |exact aj (aj (m:=f6 _) (fC (ay (ay ⟨_,rfl,ay h⟩)) htake))
  |exact aj (aj (m:=f6 _) (fC (ay ⟨_,rfl,ay h⟩) htake))
end
end HT
namespace L2
open PySem PySem.Spec PyProof.Rows
abbrev TO:=St->Hp->(Option Int->Hp->Prop)->Prop
def PO(X:Cx)(e:Option Expr)(t:TO):Prop:=
 ∀(pins:List (Addr×Obj)) (s:ae) (σ:St) (H:Hp) (Q:Option Int->Hp->Prop),Inv X pins σ H s->t σ H Q->
  af (model X.prog X.w) X.A (evalPart e X.env) (λu s'=>∃o H',Inv X pins σ H' s'/\cX u o/\Q o H') X.xe s
def JU:TO:=λ_ H Q=>Q none H
def QD(t:TE):TO:=λσ H Q=>t σ H λx H1=>∃i,x=.int i/\Q (some i) H1
section
variable{X:Cx}{e:Expr}{te:TE}{lo hi:Option Expr}{tl th:TO}{pos p2:Pos}
theorem Es:PO X none JU:=by intro pins s σ H Q I h;rw[l3];exact ay ⟨none,H,I,.none,h⟩
theorem Et(h:PE X e te):PO X (some e) (QD te):=by intro pins s σ H Q I hw;rw[evalPart_some];refine thn (h pins s σ H _ I hw) λu s1 zz=>?_;obtain⟨x,H1,I1,r1,q1⟩:=zz;obtain⟨i,rfl,q⟩:=q1;obtain⟨t,rfl⟩:=r1;exact⟨some i,H1,I1,.int i t,q⟩
def SlR(X:Cx)(r:V->Option Int->Option Int->Hp->VK->Prop):Prop:=
 ∀(pins:List (Addr×Obj)) (s:ae) (σ:St) (H:Hp) (x:V) (v vl vu:aa) (lo hi:Option Int) (sl:Addr) (Q:VK),Inv X pins σ H s->RelV x v->s.heap.IsSliceOf sl vl vu .none->cX vl lo->cX vu hi->r x lo hi H Q->
  ∃T id,typeLookup (.type T) "__getitem__" = pure (some (.builtin id))/\s.TypeIs v T/\af (model X.prog X.w) X.A (getItem v (.ref sl)) (EP X pins σ Q) X.xe s
def tSl(r:V->Option Int->Option Int->Hp->VK->Prop)(te:TE)(tl th:TO):TE:=λσ H Q=>te σ H λx H1=>tl σ H1 λl H2=>th σ H2 λu H3=>r x l u H3 Q
theorem zy{r:V->Option Int->Option Int->Hp->VK->Prop}(hr:SlR X r)(he:PE X e te)(hl:PO X lo tl)(hu:PO X hi th):PE X (.Subscript e (.Slice lo hi none p2) pos) (tSl r te tl th):=by intro pins s σ H Q I h;refine jv (thn (he pins s σ H _ I h) λv s1 zz=>?_);obtain⟨x,H1,I1,r1,q1⟩:=zz;refine wpAny_Slice (thn (hl pins s1 σ H1 _ I1 q1) λvl s2 ⟨l,H2,I2,pl,q2⟩=>thn (hu pins s2 σ H2 _ I2 q2) λvu s3 zz=>?_);obtain⟨u,H3,I3,pu,q3⟩:=zz;rw[l3];refine ay ?_;have I4:Inv X pins σ H3 { s3 with heap:=s3.heap.push { cls:=.type "slice", data:=.fields #[vl,vu,.none] } }:=I3.kept (t':=s3.toks) λb ob q=>aM _ q;obtain⟨T,id,hT,ht,hg⟩:=hr pins { s3 with heap:=s3.heap.push { cls:=.type "slice", data:=.fields #[vl,vu,.none] } } σ H3 x v vl vu l u s3.heap.objs.size Q I4 r1 (oj ..) pl pu q3;show af (model X.prog X.w) X.A (subscriptTail e (.Slice lo hi none p2) v (.ref s3.heap.objs.size)) (EP X pins σ Q) X.xe { s3 with heap:=s3.heap.push { cls:=.type "slice", data:=.fields #[vl,vu,.none] } };exact tail_any (ops:=[.ref s3.heap.objs.size,v]) ht hT hg (by with_unfolding_all rfl)
def BA(xs:List V)(lo hi:Option Int):List V:=(xs.drop (HT.sIx xs.length 0 lo)).take (HT.sIx xs.length xs.length hi - HT.sIx xs.length 0 lo)
theorem yK(xs:List V)(lo hi:Option Int):(BA xs lo hi).length<=xs.length:=by unfold BA;rw[bL,eD];omega
def Na(K:ak):V->Option Int->Option Int->Hp->VK->Prop:=λx lo hi H Q=>∃a xs,x=.ref a/\SqT K H a xs/\
 ¬(HT.sIx xs.length 0 lo=0/\HT.sIx xs.length xs.length hi=xs.length)/\∀p,H p=none->Q (.ref p) (upd H p (.tup (BA xs lo hi)))
theorem GY:SlR X (Na X.K):=by
 intro pins s σ H x v vl vu lo hi sl Q I rx hs pl pu h;obtain⟨a,xs,rfl,hx,hw,q⟩:=h;cases rx;obtain⟨its,r,ht,hz⟩:=I.tuple hx;have hlen:its.toArray.size=xs.length:=by rw[aR];exact r.length.symm
 refine⟨"tuple", _,dM.lookup,ht.typeIs,?_⟩;refine HT.xq ht hs pl pu (by rw[hlen];exact hw) ?_ (by rw[hlen];exact hz);rw[hlen];refine⟨.ref s.heap.objs.size,_,I.laid (t':=s.toks) (o:=.tup (BA xs lo hi)) (λb ob q=>aM _ q) (aC _) ?_,rfl,q _ (I.hok.fresh (aC _))⟩;exact⟨bp (yK xs lo hi) hz,_,(r.drop (HT.sIx xs.length 0 lo)).take (HT.sIx xs.length xs.length hi - HT.sIx xs.length 0 lo),jA _ _⟩
def QE(K:ak):R2:=λx y H Q=>∃a b xs ys,x=.ref a/\y=.ref b/\SqT K H a xs/\SqT K H b ys/\xs≠[]/\xs.length+ys.length<=aB/\
 (ys=[]->Q (.ref a) H)/\(ys≠[]->∀p,H p=none->Q (.ref p) (upd H p (.tup (xs++ys))))
theorem Vals.nil_iff{xs:List V}{us:List aa}(r:Vals xs us):us=[] ↔ xs=[]:=by
 cases r with
 |nil=>simp
 |cons _ _=>simp
theorem Eu:OpR X (ck .Add) (QE X.K):=by intro pins s σ H x y v u Q I rx ry h;obtain⟨a,b,xs,ys,rfl,rfl,ha,hb,hx,hz,q1,q2⟩:=h;cases rx;cases ry;obtain⟨its,r1,p1,_⟩:=I.tuple ha;obtain⟨its2,r2,p2,_⟩:=I.tuple hb;refine HT.JS p1 p2 (λz=>hx (r1.nil_iff.mp z)) (λz=>⟨.ref a,H,I,rfl,q1 (r2.nil_iff.mp z)⟩) (λz=>?_) (by rw[<-r1.length,<- r2.length];exact hz);refine⟨.ref s.heap.objs.size,_,I.laid (t':=s.toks) (o:=.tup (xs++ys)) (λb ob q=>aM _ q) (aC _) ?_,rfl,q2 (λw=>z (r2.nil_iff.mpr w)) _ (I.hok.fresh (aC _))⟩;exact⟨by rw[au];exact hz,_,r1.append r2,jA _ _⟩
end
def ixN(n:Nat)(i:Int):Option Nat:=if 0<=i then (if i<n then some i.toNat else none)else if -(n:Int)<=i then some (i+n).toNat else none
def atI{α:Type}(xs:List α)(i:Int):Option α:=(ixN xs.length i).bind λj=>xs[j]?
variable{j:Nat}
theorem Ew{n:Nat}{i:Int}(h:ixN n i=some j):seqIndex? i n=some j/\j<n/\-(n:Int)<=i/\i<n:=by
 unfold ixN at h;by_cases h0:0<=i
 ·rw[ah h0]at h;by_cases h1:i<n
  ·rw[ah h1]at h;have e:i.toNat=j:=bW h;exact⟨by rw[jr h0 h1,e],by omega,by omega,h1⟩
  ·rw[ai h1]at h;cases h
 ·rw[ai h0]at h;by_cases h1:-(n:Int)<=i
  ·rw[ah h1]at h;have e:(i+n).toNat=j:=bW h;exact⟨by rw[jg (by omega) h1,e],by omega,h1,by omega⟩
  ·rw[ai h1]at h;cases h
theorem BB{α:Type}{xs:List α}{i:Int}{v:α}(h:atI xs i=some v):∃j,seqIndex? i xs.length=some j/\xs[j]?=some v/\j<xs.length/\-(xs.length:Int)<=i/\i<xs.length:=by
 unfold atI at h;cases e:ixN xs.length i with
 |none=>rw[e]at h;cases h
 |some j=>rw[e]at h;obtain⟨h1,h2,h3,h4⟩:=Ew e;exact⟨j,h1,h,h2,h3,h4⟩
theorem uT{α:Type}{xs:List α}{v:α}(h:xs[j]?=some v):atI xs (j:Int)=some v:=by
 have hj:j<xs.length:=(br.mp h).1;have e:ixN xs.length (j:Int)=some j:=by unfold ixN;rw[ah (by omega),ah (by omega)];simp
 unfold atI;rw[e];exact h
def Ex(b:Expr):Prop:=∀o i,subscripted b false o i=operate [o,i] (getItem o i)
def IxR(X:Cx)(r:R2):Prop:=
 ∀(value slice:Expr) (pins:List (Addr×Obj)) (s:ae) (σ:St) (H:Hp) (x y:V) (v u:aa) (Q:VK),Inv X pins σ H s->RelV x v->RelV y u->r x y H Q->
  subscripted slice false v u=operate [v,u] (getItem v u)->af (model X.prog X.w) X.A (subscriptTail value slice v u) (EP X pins σ Q) X.xe s
def MtR(X:Cx)(id:String)(r:V->List V->Hp->VK->Prop):Prop:=
 ∀(pins:List (Addr×Obj)) (s:ae) (σ:St) (H:Hp) (x:V) (xs:List V) (v:aa) (us:List aa) (Q:VK),Inv X pins σ H s->RelV x v->Vals xs us->r x xs H Q->
  af (model X.prog X.w) X.A (call (.builtin id) (v::us)) (EP X pins σ Q) X.xe s
variable{r:R2}{pins:List (Addr×Obj)}{σ:St}{its its':List aa}{y:V}{u:aa}{T:String}
section
variable{X:Cx}{a b:Expr}{ta tb:TE}{pos:Pos}
theorem IxR.or{r':R2}(h:IxR X r)(h':IxR X r'):IxR X (λx y H Q=>r x y H Q\/r' x y H Q):=by
 intro value slice pins s σ H x y v u Q I rx ry q hs;rcases q with q|q
 ·exact h value slice pins s σ H x y v u Q I rx ry q hs
 ·exact h' value slice pins s σ H x y v u Q I rx ry q hs
theorem QF(hr:IxR X r)(ha:PE X a ta)(hb:PE X b tb)(hs:Ex b):PE X (.Subscript a b pos) (tOp r ta tb):=by intro pins s σ H Q I h;exact jv (MX ha hb I h λv u s2 x y H2 I2 rx ry q=>hr a b pins s2 σ H2 x y v u Q I2 rx ry q (hs _ _))
def QG(K:ak):R2:=λx y H Q=>∃p xs i v,x=.ref p/\y=.int i/\SqL K H p xs/\atI xs i=some v/\Q v H
def QH(K:ak):R2:=λx y H Q=>∃p xs i v,x=.ref p/\y=.int i/\SqT K H p xs/\atI xs i=some v/\Q v H
def QI:R2:=λx y H Q=>∃z i c,x=.str z/\y=.int i/\z.length<=aB/\atI z.cps.toList i=some c/\Q (.str ⟨#[c]⟩) H
theorem JV:IxR X (QG X.K):=by
 intro value slice pins s σ H x y v u Q I rx ry h hs;obtain⟨p,xs,i,z,rfl,rfl,hq,he,q⟩:=h;cases rx;obtain⟨t,rfl⟩:=ry;obtain⟨its,r,pl,hz⟩:=I.list hq;obtain⟨j,h1,h2,h3,h4,h5⟩:=BB he;obtain⟨w,ew,rw'⟩:=r.get h2;have hl:=r.length;have hn:=yg;have fin:EP X pins σ Q w s:=⟨z,H,I,rw',q⟩;by_cases h0:0<=i
 ·have hj:i.toNat=j:=by rw[jr h0 h5]at h1;exact bW h1
  exact item_listR pl.isList h0 (by omega) (by rw[hj];simpa using ew) fin hs
 ·have hj:(i+(its.toArray.size:Int)).toNat=j:=by rw[jg (by omega) h4]at h1;rw[aR,<- hl];exact bW h1
  exact jR (x:=w) pl.isList.typeIs kK.lookup
   (wpAny_getItem_list_neg (Q:=λr s'=>r=w/\EP X pins σ Q r s') pl.isList (by omega) (by rw[aR]<;>omega) (by omega) (by rw[hj];simpa using ew) ⟨rfl,fin⟩) hs
theorem Nc:IxR X (QH X.K):=by
 intro value slice pins s σ H x y v u Q I rx ry h hs;obtain⟨p,xs,i,z,rfl,rfl,hq,he,q⟩:=h;cases rx;obtain⟨t,rfl⟩:=ry;obtain⟨its,r,pl,hz⟩:=I.tuple hq;obtain⟨j,h1,h2,h3,h4,h5⟩:=BB he;obtain⟨w,ew,rw'⟩:=r.get h2;have hl:=r.length;have hn:=yg;have fin:EP X pins σ Q w s:=⟨z,H,I,rw',q⟩;exact jR (x:=w) pl.typeIs dM.lookup
  (getItem_tuple (j:=j) (Q:=λr s'=>r=w/\EP X pins σ Q r s') pl (by omega) (by omega) (by rw[aR,<- hl];exact h1) (by simpa using ew) ⟨rfl,fin⟩) hs
theorem Nd:IxR X QI:=by
 intro value slice pins s σ H x y v u Q I rx ry h hs;obtain⟨z,i,c,rfl,rfl,hz,he,q⟩:=h;obtain⟨t,rfl⟩:=rx;obtain⟨t',rfl⟩:=ry;obtain⟨j,h1,h2,h3,h4,h5⟩:=BB he;have hl:z.cps.toList.length=z.length:=by simp[Str.length]
 rw[hl]at h1 h4 h5;have hn:=yg;exact tail_any (typeIs_str s z t) slot_str_getitem.lookup (getItem_str (c:=c) (by
  have e1:decide (i < -(2 ^ 63:Int))=false:=aU (by omega);have e2:decide (i >= 2 ^ 63)=false:=aU (by omega);rw[e1,e2,Bool.or_false]) (by rw[h1];simpa using h2) ⟨.str ⟨#[c]⟩,H,I.tok _,⟨_,rfl⟩,q⟩) hs
def rIx(K:ak):R2:=λx y H Q=>QG K x y H Q\/QH K x y H Q\/QI x y H Q
theorem Nf:IxR X (rIx X.K):=JV.or (Nc.or Nd)
theorem DG(its:List aa)(n j:Nat)(u:aa):eP (·.setIfInBounds j u) { cls:=.type "list", data:=.seq its.toArray n }={ cls:=.type "list", data:=.seq (its.set j u).toArray n }:=by simp[eP]
theorem Inv.lst{pins:List (Addr×Obj)}{σ:St}{H:Hp}{s:ae}{p:Addr}{xs:List V}(I:Inv X pins σ H s)(h:H p=some (.lst xs)):
  ∃(its:List aa) (n:Nat),Vals xs its/\s.heap.get? p=some { cls:=.type "list", data:=.seq its.toArray n }/\xs.length<=aB:=by
 obtain⟨z,its,n,r,e⟩:=I.hok p _ h;exact⟨its,n,r,e,z⟩
theorem Inv.lstUpd{H:Hp}{s:ae}{p:Addr}{xs ys:List V}{n n':Nat}{f:Obj->Obj}(I:Inv X pins σ H s)(h:H p=some (.lst xs))
  (ho:s.heap.get? p=some { cls:=.type "list", data:=.seq its.toArray n }) (hf:f { cls:=.type "list", data:=.seq its.toArray n }={ cls:=.type "list", data:=.seq its'.toArray n' }) (r:Vals ys its') (hz:ys.length<=aB) (t:Nat):
  Inv X pins σ (upd H p (.lst ys)) { s with heap:=s.heap.update p f,toks:=t }:=by
 have e:(s.heap.update p f).get? p=some { cls:=.type "list", data:=.seq its'.toArray n' }:=by rw[j1 f ho (by rw[hf]<;>rfl),hf]
 refine I.write (x:=p) (e:=p) (by rw[h];trivial) (.inl rfl) (λb u hb q=>(jS _ _ (dJ hb)).trans q) ⟨_,e⟩ ?_;exact⟨hz,its',n',r,e⟩
def LW:V->V->V->Hp->(Hp->Prop)->Prop:=λo i v H Q=>∃p xs k j,o=.ref p/\i=.int k/\H p=some (.lst xs)/\ixN xs.length k=some j/\Q (upd H p (.lst (xs.set j v)))
theorem set_list:Qq X LW:=by
 intro pins s σ H o i v ov iv u Q I ro ri rv h;obtain⟨p,xs,k,j,rfl,rfl,hp,hj,q⟩:=h;cases ro;obtain⟨t,rfl⟩:=ri;obtain⟨its,n,r,ho,hz⟩:=I.lst hp;obtain⟨h1,h2,h3,h4⟩:=Ew hj;have hl:=r.length;have hn:=yg;have I':Inv X pins σ (upd H p (.lst (xs.set j v))) { s with heap:=s.heap.update p (eP (·.setIfInBounds j u)) }:=
  I.lstUpd hp ho (DG its n j u) (r.set rv j) (by rw[c7];exact hz) s.toks
 by_cases h0:0<=k
 ·have hk:k.toNat=j:=by rw[jr h0 h4]at h1;exact bW h1
  exact W.ki_setAt ho h0 (by omega) (by rw[aR,<- hl];exact h4) (by rw[hk];exact⟨_,I',q⟩)
 ·have hk:(k+(its.toArray.size:Int)).toNat=j:=by rw[jg (by omega) h3]at h1;rw[aR,<- hl];exact bW h1
  exact W.ki_setBack ho (by omega) (by rw[aR,<- hl];exact h3) (by omega) (by rw[hk];exact⟨_,I',q⟩)
theorem BC(lo hi:Option Int)(n:Nat):(sliceBounds lo hi none n).1=((HT.sIx n 0 lo:Nat):Int)/\(sliceBounds lo hi none n).2.1=((HT.sIx n n hi:Nat):Int)/\(sliceBounds lo hi none n).2.2=1:=by
 refine⟨?_,?_,rfl⟩
 ·cases lo with
  |none=>simp[sliceBounds,HT.sIx]
  |some i=>
   simp only[sliceBounds,HT.sIx,gu,show (1:Int) > 0 by decide,if_true];by_cases h:i<0
   ·simp only[h,if_true]<;>omega
   ·simp only[h,if_false]<;>omega
 ·cases hi with
  |none=>simp[sliceBounds,HT.sIx]
  |some i=>
   simp only[sliceBounds,HT.sIx,gu,show (1:Int) > 0 by decide,if_true];by_cases h:i<0
   ·simp only[h,if_true]<;>omega
   ·simp only[h,if_false]<;>omega
theorem AE(its:List aa)(lo hi:Option Int):slicePick its.toArray lo hi none=((its.drop (HT.sIx its.length 0 lo)).take (HT.sIx its.length its.length hi - HT.sIx its.length 0 lo)).toArray:=by obtain⟨h1,h2,h3⟩:=BC lo hi its.toArray.size;unfold slicePick;rw[h1,h2,h3];simp only[sliceRange_one,pick_run,aR]<;>rfl
def JW(K:ak):V->Option Int->Option Int->Hp->VK->Prop:=λx lo hi H Q=>∃a xs,x=.ref a/\SqL K H a xs/\∀p,H p=none->Q (.ref p) (upd H p (.lst (BA xs lo hi)))
theorem JX:SlR X (JW X.K):=by intro pins s σ H x v vl vu lo hi sl Q I rx hs pl pu h;obtain⟨a,xs,rfl,hx,q⟩:=h;cases rx;obtain⟨its,r,ht,hz⟩:=I.list hx;have hlen:=r.length;refine⟨"list", _,kK.lookup,ht.isList.typeIs,?_⟩;refine wpAny_getItem_list_slice ht.isList hs pl pu .none (by simp) ?_ (by rw[aR]<;>omega);rw[AE,<- hlen];refine⟨.ref s.heap.objs.size,_,I.laid (t':=s.toks) (o:=.lst (BA xs lo hi)) (λb ob q=>aM _ q) (aC _) ?_,rfl,q _ (I.hok.fresh (aC _))⟩;exact⟨bp (yK xs lo hi) hz,_,0,(r.drop (HT.sIx xs.length 0 lo)).take (HT.sIx xs.length xs.length hi - HT.sIx xs.length 0 lo),bB _ rfl⟩
def wO:V->Bool
 |.non=>true
 |.bl _=>true
 |.int _=>true
 |.str _=>true
 |_=>false
def eqV:V->V->Bool
 |.non,.non=>true
 |.bl a,.bl b=>a==b
 |.bl a,.int b=>(if a then 1 else 0)==b
 |.int a,.bl b=>a==(if b then 1 else 0)
 |.int a,.int b=>a==b
 |.str a,.str b=>a==b
 |_,_=>false
theorem zz{A:aw}{s:ae}{x:V}{v:aa}(ry:RelV y u)(rx:RelV x v)(fy:wO y=true)(fx:wO x=true):fR A s u v (eqV y x):=by
 cases y with
 |non=>
  cases ry;cases x with
  |non=>cases rx;exact iW _
  |bl b=>cases rx;exact nM b
  |int b=>obtain⟨t,rfl⟩:=rx;exact kh b t
  |str b=>obtain⟨t,rfl⟩:=rx;exact kl b t
  |_=>exact ao (show false=true from fx) ba
 |bl a=>
  cases ry;cases x with
  |non=>cases rx;exact nN a
  |bl b=>cases rx;exact nO a b
  |int b=>obtain⟨t,rfl⟩:=rx;exact nZ a b t
  |str b=>obtain⟨t,rfl⟩:=rx;exact n4 a b t
  |_=>exact ao (show false=true from fx) ba
 |int a=>
  obtain⟨t',rfl⟩:=ry;cases x with
  |non=>cases rx;exact km a t'
  |bl b=>cases rx;exact n5 a t' b
  |int b=>obtain⟨t,rfl⟩:=rx;exact om a t' b t
  |str b=>obtain⟨t,rfl⟩:=rx;exact kx a t' b t
  |_=>exact ao (show false=true from fx) ba
 |str a=>
  obtain⟨t',rfl⟩:=ry;cases x with
  |non=>cases rx;exact kn a t'
  |bl b=>cases rx;exact n9 a t' b
  |int b=>obtain⟨t,rfl⟩:=rx;exact ky a t' b t
  |str b=>obtain⟨t,rfl⟩:=rx;exact oo a t' b t
  |_=>exact ao (show false=true from fx) ba
 |_=>exact ao (show false=true from fy) ba
def eqU(x:V)(u:aa):Bool:=match u with
 |.none=>eqV .non x
 |.bool b=>eqV (.bl b) x
 |.int i _=>eqV (.int i) x
 |.str z _=>eqV (.str z) x
 |_=>false
theorem GZ{x:V}(r:RelV y u)(f:wO y=true):eqU x u=eqV y x:=by
 cases y with
 |non=>cases r;rfl
 |bl b=>cases r;rfl
 |int i=>obtain⟨t,rfl⟩:=r;rfl
 |str z=>obtain⟨t,rfl⟩:=r;rfl
 |_=>exact ao (show false=true from f) ba
theorem xu{x:V}:∀{xs:List V} {us:List aa},Vals xs us->xs.all wO=true->us.any (eqU x)=xs.any λy=>eqV y x
 |_,_,.nil,_=>rfl
 |y::xs,u::us,.cons r t,f=>by rw[cq,aE]at f;rw[dZ,dZ,GZ r f.1,xu t f.2]
theorem vK{A:aw}{s:ae}{x:V}{v:aa}(rx:RelV x v)(fx:wO x=true):∀{xs:List V} {us:List aa},Vals xs us->xs.all wO=true->∀u∈us,fR A s u v (eqU x u)
 |_,_,.nil,_=>λu hu=>by cases hu
 |y::xs,u::us,.cons r t,f=>λu' hu=>by
  rw[cq,aE]at f;rcases aP.mp hu with rfl|hu
  ·rw[GZ r f.1];exact zz r rx f.1 fx
  ·exact vK rx fx t f.2 u' hu
def inV(x:V)(xs:List V):Bool:=xs.any λy=>eqV y x
def rIn(K:ak)(neg:Bool):R2:=λx y H Q=>∃p xs,y=.ref p/\(SqL K H p xs\/SqT K H p xs)/\wO x=true/\xs.all wO=true/\Q (.bl (if neg then !inV x xs else inV x xs)) H
theorem FD:OpR X (aS .In) (rIn X.K false):=by
 intro pins s σ H x y v u Q I rx ry h;obtain⟨p,xs,rfl,hq,fx,fs,q⟩:=h;cases ry;rcases hq with hq|hq
 ·obtain⟨its,r,pl,hz⟩:=I.list hq;refine lu (eqU x) pl.isList (λw hw=>vK rx fx r fs w (by simpa using hw)) ⟨.bl _,H,I,rfl,?_⟩;rw[show its.toArray.any (eqU x)=its.any (eqU x) by simp,xu r fs];exact q
 ·obtain⟨its,r,pl,hz⟩:=I.tuple hq;refine SeqAt.in_tupleAt (eqU x) pl (λw hw=>vK rx fx r fs w (by simpa using hw)) ⟨.bl _,H,I,rfl,?_⟩;rw[show its.toArray.any (eqU x)=its.any (eqU x) by simp,xu r fs];exact q
theorem BD:OpR X (aS .NotIn) (rIn X.K true):=by
 intro pins s σ H x y v u Q I rx ry h;obtain⟨p,xs,rfl,hq,fx,fs,q⟩:=h;cases ry;rcases hq with hq|hq
 ·obtain⟨its,r,pl,hz⟩:=I.list hq;refine SeqAt.notIn_listAt (eqU x) pl.isList (λw hw=>vK rx fx r fs w (by simpa using hw)) ⟨.bl _,H,I,rfl,?_⟩;rw[show its.toArray.any (eqU x)=its.any (eqU x) by simp,xu r fs];exact q
 ·obtain⟨its,r,pl,hz⟩:=I.tuple hq;refine SeqAt.notIn_tupleAt (eqU x) pl (λw hw=>vK rx fx r fs w (by simpa using hw)) ⟨.bl _,H,I,rfl,?_⟩;rw[show its.toArray.any (eqU x)=its.any (eqU x) by simp,xu r fs];exact q
theorem BE:qC X (.builtin "len") (λxs H Q=>∃p ys,xs=[.ref p]/\(SqL X.K H p ys\/SqT X.K H p ys)/\Q (.int ys.length) H):=by
 intro pins s σ H xs us Q I r h;obtain⟨p,ys,rfl,hq,q⟩:=h;obtain⟨u,rfl,rx⟩:=vals1 r;cases rx;have hn:=yg;rcases hq with hq|hq
 ·obtain⟨its,r',pl,hz⟩:=I.list hq;have hlen:=r'.length;exact Calls.call_len_list pl.isList (by simp only[aR]<;>omega) ⟨.int ys.length,H,I.tok _,⟨s.toks+1,by rw[aR,hlen]⟩,q⟩
 ·obtain⟨its,r',pl,hz⟩:=I.tuple hq;have hlen:=r'.length;exact len_tuple pl (by simp only[aR]<;>omega) ⟨.int ys.length,H,I.tok _,⟨s.toks+1,by rw[aR,hlen]⟩,q⟩
theorem BF:qC X (.builtin "len") (λxs H Q=>∃z,xs=[.str z]/\z.length<=aB/\Q (.int z.length) H):=by intro pins s σ H xs us Q I r h;obtain⟨z,rfl,hz,q⟩:=h;obtain⟨u,rfl,t,rfl⟩:=vals1 r;have hn:=yg;exact len_str (by omega) ⟨.int z.length,H,I.tok _,⟨_,rfl⟩,q⟩
theorem BG:qC X (.type "list") (λxs H Q=>∃p ys,xs=[.ref p]/\(SqL X.K H p ys\/SqT X.K H p ys)/\∀l,H l=none->Q (.ref l) (upd H l (.lst ys))):=by
 intro pins s σ H xs us Q I r h;obtain⟨p,ys,rfl,hq,q⟩:=h;obtain⟨u,rfl,rx⟩:=vals1 r;cases rx;have fin:∀(its:List aa),Vals ys its->ys.length<=aB->∀(h':Heap) (c':Nat),(∀b o',s.heap.get? b=some o'->h'.get? b=some o')->
   h'.get? s.heap.objs.size=some { cls:=.type "list", dict:=none,data:=.seq its.toArray c',slots:=#[] }->EP X pins σ Q (.ref s.heap.objs.size) { s with heap:=h' }:=λits r' hz h' c' kp e=>
  ⟨.ref s.heap.objs.size,_,I.laid (t':=s.toks) kp (aC _) (show p9 X.prog X.w _ h' _ (.lst ys) from⟨hz,its,c',r',e⟩),rfl,q _ (I.hok.fresh (aC _))⟩
 rcases hq with hq|hq
 ·obtain⟨its,r',pl,hz⟩:=I.list hq;have hlen:=r'.length;obtain⟨o,ho,hc,n,hd⟩:=pl.isList;exact l4 p (.inl rfl) ho hc hd (λh' c' kp e=>fin its r' hz h' c' kp e) (by simp only[aR]<;>omega)
 ·obtain⟨its,r',pl,hz⟩:=I.tuple hq;have hlen:=r'.length;obtain⟨o,ho,hc,n,hd⟩:=pl;exact l4 p (.inr rfl) ho hc hd (λh' c' kp e=>fin its r' hz h' c' kp e) (by simp only[aR]<;>omega)
theorem AF:qC X (.type "tuple") (λxs H Q=>∃p ys,xs=[.ref p]/\((SqL X.K H p ys/\∀l,H l=none->Q (.ref l) (upd H l (.tup ys)))\/(SqT X.K H p ys/\Q (.ref p) H))):=by
 intro pins s σ H xs us Q I r h;obtain⟨p,ys,rfl,h⟩:=h;obtain⟨u,rfl,rx⟩:=vals1 r;cases rx;rcases h with ⟨hq,q⟩|⟨hq,q⟩
 ·obtain⟨its,r',pl,hz⟩:=I.list hq;have hlen:=r'.length;refine call_tuple_list pl.isList (λh' kp=>?_) (by simp only[aR]<;>omega);have I1:Inv X pins σ H { s with heap:=h' }:=I.kept (t':=s.toks) kp;have I2:Inv X pins σ (upd H h'.objs.size (.tup ys)) { s with heap:=h'.push { cls:=.type "tuple", data:=.seq its.toArray } }:=
   I1.laid (t':=s.toks) (λb o e=>aM _ e) (aC _) (show p9 X.prog X.w _ _ _ (.tup ys) from⟨hz,its,r',jA _ _⟩)
  exact⟨.ref h'.objs.size,_,I2,rfl,q _ (I1.hok.fresh (aC _))⟩
 ·obtain⟨its,r',pl,hz⟩:=I.tuple hq;exact call_tuple_same pl ⟨.ref p,H,I,rfl,q⟩
def tyV(K:ak)(T:String)(x:V)(H:Hp):Prop:=match x with
 |.str _=>T="str"
 |.int _=>T="int"
 |.ref p=>(T="list" /\ ∃xs,SqL K H p xs)\/(T="tuple" /\ ∃o,K.lookup p=some o/\o.cls=.type "tuple" /\ o.dict=none)\/
   (T="dict" /\ ((∃kvs,H p=some (.dK kvs))\/∃kvs,H p=some (.dT kvs)))\/(T="set" /\ ∃S n,H p=some (.set S n))
 |_=>False
theorem Ng{H:Hp}{s:ae}{x:V}{v:aa}(I:Inv X pins σ H s)(r:RelV x v)(ty:tyV X.K T x H):
  s.TypeIs v T/\∀a,v=.ref a->∃ob,s.heap.get? a=some ob/\ob.dict=none:=by
 cases x with
 |str z=>obtain⟨t,rfl⟩:=r;cases (show T="str" from ty);exact⟨typeIs_str s z t,λ_ e=>nomatch e⟩
 |int i=>obtain⟨t,rfl⟩:=r;cases (show T="int" from ty);exact⟨typeIs_int s i t,λ_ e=>nomatch e⟩
 |ref p=>
  cases r;rcases ty with ⟨rfl,xs,hq⟩|⟨rfl,o,hk,hc,hd⟩|⟨rfl,hk⟩|⟨rfl,S,n,hk⟩
  ·obtain⟨its,_,pl,_⟩:=I.list hq;refine⟨pl.isList.typeIs,λa e=>?_⟩;cases e;obtain⟨o,n,e,c,hd,_⟩:=pl;exact⟨o,e,hd⟩
  ·refine⟨⟨o,I.kIn p o hk,hc⟩,λa e=>?_⟩;cases e;exact⟨o,I.kIn _ o hk,hd⟩
  ·have z:∃o,s.heap.get? p=some o/\o.ExactDict:=by
    rcases hk with ⟨kvs,hk⟩|⟨kvs,hk⟩
    ·obtain⟨_,_,_,_,o,_,_,e,ex,_⟩:=I.hok p _ hk;exact⟨o,e,ex⟩
    ·obtain⟨_,_,_,_,o,_,_,e,ex,_⟩:=I.hok p _ hk;exact⟨o,e,ex⟩
   obtain⟨o,e,ex⟩:=z;refine⟨⟨o,e,ex.1⟩,λa e2=>?_⟩;cases e2;exact⟨o,e,ex.2.1⟩
  ·obtain⟨o,_,_,_,e,ex,_⟩:=I.hok p _ hk;refine⟨⟨o,e,ex.1⟩,λa e2=>?_⟩;cases e2;exact⟨o,e,ex.2.1⟩
 |_=>exact bU ty
def tBM(K:ak)(T:String)(r:V->List V->Hp->VK->Prop)(to:TE)(t:TA):TE:=λσ H Q=>to σ H λx H1=>tyV K T x H1/\t σ H1 λxs H2=>r x xs H2 Q
variable{o e:Expr}{es:List Expr}{to:TE}{t:TA}{name:Str}{apos cpos:Pos}{T id:String}{r:V->List V->Hp->VK->Prop}
theorem QJ(pa:jw T)(slot:Slot T name id)(hty:typeOf (.builtin id)=pure (.type "method_descriptor"))(hm:MtR X id r)(ho:PE X o to)(ha:PA X (e::es) t)
  (hbase:dY o name X.env (eval o X.env)=eval o X.env:=by rfl)
  (hfew:((aZ cpos (az (e::es) X.env)).all (λx=>!x.1)&&(backToKw cpos (dj [] X.env)).all (λx=>x.1.isSome)
   && decide ((e::es).length+([]:List eU).length+(if ([]:List eU).isEmpty then 0 else 1)<30))=true:=by rfl)
  (hline:(apos.endLine==cpos.line)=true:=by rfl) (hs:az (e::es) X.env=(false,eval e X.env)::az es X.env:=by rfl) (hplain:(aZ cpos (az es X.env)).any (·.1)=false:=by rfl):
  PE X (.Call (.Attribute o name apos) (e::es) [] cpos) (tBM X.K T r to t):=by
 intro pins s σ H Q I h;refine wpAny_Call_method_late hbase hfew hline rfl (thn (ho pins s σ H _ I h) λv s1 zz=>?_);obtain⟨x,H1,I1,r1,ty,q1⟩:=zz;obtain⟨h1,h2⟩:=Ng I1 r1 ty;refine⟨T,id,pa,slot,hty,h1,h2,?_⟩;have hA:=ha cpos pins s1 σ H1 _ I1 q1;rw[hs]at hA ⊢;refine jT (by show (false||(aZ cpos (az es X.env)).any (·.1))=false;rw[hplain]<;>rfl) (iw ?_)
 exact thn hA λus s2 ⟨vs,H2,I2,r2,q2⟩=>hm pins s2 σ H2 x vs v us Q I2 r1 r2 q2
end
def MtM(X:Cx)(id:String)(r:V->List V->Hp->VK->Prop):Prop:=
 ∀(pins:List (Addr×Obj)) (s:ae) (σ:St) (H:Hp) (x:V) (xs:List V) (v:aa) (us:List aa) (Q:VK),Inv X pins σ H s->RelV x v->Vals xs us->r x xs H Q->
  af (model X.prog X.w) X.A (call (.builtin id) (v::us)) (EP X pins σ Q) X.xe s
theorem Vals.one:∀{x:V} {us:List aa},Vals [x] us->∃u,us=[u]/\RelV x u
 |_,_,.cons r .nil=>⟨_,rfl,r⟩
variable{t':Nat}
section
variable{X:Cx}{pins:List (Addr×Obj)}{σ:St}{H:Hp}{s:ae}{l b:Addr}{xs ys zs:List V}
theorem Inv.lset{n:Nat}{f:Array aa->Array aa}(I:Inv X pins σ H s)(hH:H l=some (.lst xs))
  (e:s.heap.get? l=some { cls:=.type "list", data:=.seq its.toArray n }) (hf:f its.toArray=its'.toArray) (hv:Vals ys its') (hz:ys.length<=aB):
  Inv X pins σ (upd H l (.lst ys)) { s with heap:=s.heap.update l (eP f),toks:=t' }:=by
 have q:=PySem.IsL.update e f;rw[hf]at q;refine I.write (x:=l) (e:=l) (by rw[hH];exact trivial) (.inl rfl) (λb' u hb hu=>(jS s.heap (eP f) (dJ hb)).trans hu) ⟨_,q⟩ ?_;exact⟨hz,its',_,hv,q⟩
theorem Inv.lnew(I:Inv X pins σ H s)(hv:Vals ys its)(hz:ys.length<=aB):
  Inv X pins σ (upd H s.heap.objs.size (.lst ys)) { s with heap:=s.heap.push { cls:=.type "list", data:=.seq its.toArray },toks:=t' }:=
 I.laid (λ_ _ q=>aM _ q) (aC _) ⟨hz,its,0,hv,bB _ rfl⟩
theorem Inv.fresh(I:Inv X pins σ H s):H s.heap.objs.size=none:=I.hok.fresh (aC _)
theorem Inv.lstM(I:Inv X pins σ H s)(hH:H l=some (.lst xs)):xs.length<=aB/\∃(its:List aa) (n:Nat),Vals xs its/\xs.length=its.length/\s.heap.get? l=some { cls:=.type "list", data:=.seq its.toArray n }:=by obtain⟨z,its,n,r,e⟩:=I.hok l _ hH;exact⟨z,its,n,r,r.length,e⟩
theorem Cr{n:Nat}(h:n<=aB):eX n=false:=by unfold eX;exact aU (by omega)
end
section
variable{X:Cx}
def BH:V->List V->Hp->VK->Prop:=λx vs H Q=>∃l xs y,x=.ref l/\vs=[y]/\H l=some (.lst xs)/\xs.length<aB/\Q .non (upd H l (.lst (xs++[y])))
theorem yi:MtM X "list.append" BH:=by intro pins s σ H x vs v us Q I rx rv h;obtain⟨l,xs,y,rfl,rfl,hH,hz,q⟩:=h;cases rx;obtain⟨u,rfl,ru⟩:=rv.one;obtain⟨z,its,n,r,hl,e⟩:=I.lstM hH;refine gY iG ⟨_,e,rfl⟩ F.entry_list_append (F.args_list_append_2 _ _) (PySem.list_append l its.toArray n u (by rw[aR];omega)) ⟨e,?_⟩;refine⟨.non,_,I.lset (its':=its++[u]) hH e (by simp) (r.append (.cons ru .nil)) ?_,rfl,q⟩;rw[au,bf];omega
def Ey:V->List V->Hp->VK->Prop:=λx vs H Q=>∃l b xs zs,x=.ref l/\vs=[.ref b]/\H l=some (.lst xs)/\H b=some (.lst zs)/\xs.length+zs.length<=aB/\Q .non (upd H l (.lst (xs++zs)))
theorem FH:MtM X "list.extend" Ey:=by
 intro pins s σ H x vs v us Q I rx rv h;obtain⟨l,b,xs,zs,rfl,rfl,hH,hB,hz,q⟩:=h;cases rx;obtain⟨u,rfl,ru⟩:=rv.one;cases ru;obtain⟨z,its,n,r,hl,e⟩:=I.lstM hH;obtain⟨z2,its2,n2,r2,hl2,e2⟩:=I.lstM hB;have hsz:its.toArray.size+its2.toArray.size<=aB:=by rw[aR,aR];omega
 have hlong:¬(!its.toArray.isEmpty&&eX (its.toArray.size+its2.toArray.size))=true:=by rw[Cr hsz,lI];exact ba
 refine gY gm ⟨_,e,rfl⟩ ko (j5 _ _)
  (AutoSeq1.list_extend_list_list_0 l its.toArray n b its2.toArray n2 hlong (by rw[aR];omega) (by omega)) ⟨e,e2,?_⟩
 refine⟨.non,_,I.lset (its':=its++its2) hH e (by simp) (r.append r2) ?_,rfl,q⟩;rw[au];omega
def Sh:R2:=λx y H Q=>∃l b xs zs,x=.ref l/\y=.ref b/\H l=some (.lst xs)/\H b=some (.lst zs)/\xs.length+zs.length<=aB/\∀p,H p=none->Q (.ref p) (upd H p (.lst (xs++zs)))
theorem Nh:OpR X (ck .Add) Sh:=by
 intro pins s σ H x y v u Q I rx ry h;obtain⟨l,b,xs,zs,rfl,rfl,hH,hB,hz,q⟩:=h;cases rx;cases ry;obtain⟨z,its,n,r,hl,e⟩:=I.lstM hH;obtain⟨z2,its2,n2,r2,hl2,e2⟩:=I.lstM hB;refine PySem.P.add_list e e2 ?_ (by rw[aR,aR];omega);have ea:its.toArray++its2.toArray=(its++its2).toArray:=by simp
 rw[ea];exact⟨.ref _,_,I.lnew (t':=s.toks) (r.append r2) (by rw[au];omega),rfl,q _ I.fresh⟩
end
section
variable{prog:ar}{w:aq}{A:aw}{E:aa->ae->Prop}{s:ae}
set_option maxRecDepth 100000 in
end
section
variable{κ:Type}[DecidableEq κ]
def r9(kvs:List (κ×V))(k:κ):Option V:=(kvs.find? λkv=>decide (kv.1=k)).map (·.2)
def putK(kvs:List (κ×V))(k:κ)(v:V):List (κ×V):=
 if (kvs.any λkv=>decide (kv.1=k))=true then kvs.map (λkv=>if kv.1=k then (kv.1,v)else kv)else kvs++[(k,v)]
theorem xy{p:κ×V}{r:List (κ×V)}{k:κ}(e:p.1=k):r9 (p::r) k=some p.2:=by simp[r9,dc,e]
theorem xA{p:κ×V}{r:List (κ×V)}{k:κ}(e:¬p.1=k):r9 (p::r) k=r9 r k:=by simp[r9,dc,e]
theorem zA(k:κ):∀kvs:List (κ×V),(kvs.any λkv=>decide (kv.1=k))=(r9 kvs k).isSome
 |[]=>rfl
 |p::r=>by
  rw[dZ];by_cases e:p.1=k
  ·simp only[xy e,aO e,Bool.true_or,Option.isSome_some]
  ·rw[xA e,aU e,l5];exact zA k r
theorem vL(kvs:List (κ×V))(k:κ)(v:V):(putK kvs k v).length<=kvs.length+1:=by
 unfold putK;split
 ·rw[ag];omega
 ·rw[au,aA,bg];omega
theorem G0{kvs:List (κ×V)}{k:κ}(v:V)(h:r9 kvs k=none):putK kvs k v=kvs++[(k,v)]:=by unfold putK;rw[zA,h];exact ai (by decide)
theorem wI.isSome_eq{o:Option V}{u:Option aa}(r:wI o u):o.isSome=u.isSome:=by
 cases o with
 |none=>cases u with
  |none=>rfl
  |some _=>exact(show False from r).elim
 |some _=>cases u with
  |none=>exact(show False from r).elim
  |some _=>rfl
theorem KV.val{kvs:List (κ×V)}{vs:List (κ×aa)}(r:KV kvs vs)(k:κ):wI (r9 kvs k) (valueAt vs k):=by
 unfold KV at r
 induction r with
 |nil=>exact True.intro
 |@cons p q ps qs h t ih=>
  obtain⟨h1,h2⟩:=h;by_cases e:p.1=k
  ·have e':q.1=k:=h1.symm.trans e;have b:valueAt (q::qs) k=some q.2:=by simp[valueAt,dc,e']
   rw[xy e,b];exact h2
  ·have e':¬q.1=k:=λz=>e (h1.trans z);have b:valueAt (q::qs) k=valueAt qs k:=by simp[valueAt,dc,e']
   rw[xA e,b];exact ih
theorem KV.any{kvs:List (κ×V)}{vs:List (κ×aa)}(r:KV kvs vs)(k:κ):(kvs.any λkv=>decide (kv.1=k))=vs.any λkv=>decide (kv.1=k):=by
 unfold KV at r
 induction r with
 |nil=>rfl
 |cons h t ih=>rw[dZ,dZ,ih,h.1]
theorem KV.repl{kvs:List (κ×V)}{vs:List (κ×aa)}(r:KV kvs vs)(k:κ)(ry:RelV y u):
  KV (kvs.map λkv=>if kv.1=k then (kv.1,y)else kv) (vs.map λkv=>if kv.1=k then (kv.1,u)else kv):=by
 unfold KV at r ⊢
 induction r with
 |nil=>exact .nil
 |@cons p q ps qs h t ih=>
  rw[aF,aF];refine .cons ?_ ih;obtain⟨h1,h2⟩:=h;by_cases e:p.1=k
  ·rw[ah e,ah (h1.symm.trans e)];exact⟨h1,ry⟩
  ·rw[ai e,ai (λz=>e (h1.trans z))];exact⟨h1,h2⟩
theorem KV.put{kvs:List (κ×V)}{vs:List (κ×aa)}(r:KV kvs vs)(k:κ)(ry:RelV y u):KV (putK kvs k y) (stored vs k u):=by
 unfold putK stored;rw[r.any k];by_cases e:(vs.any λkv=>decide (kv.1=k))=true
 ·rw[ah e,ah e];exact r.repl k ry
 ·rw[ai e,ai e];exact mF r ⟨rfl,ry⟩
theorem KV.length{kvs:List (κ×V)}{vs:List (κ×aa)}(r:KV kvs vs):kvs.length=vs.length:=i4 r
end
theorem zB{P:ar}{w:aq}{k:Key}(r:RelV (kV k) u):(o7 P w).is k u=true:=by
 cases k with
 |inl i=>obtain⟨t,e⟩:=(show ∃t,u=Value.int i t from r);subst e;exact Cg P w i t
 |inr x=>obtain⟨t,e⟩:=(show ∃t,u=Value.str x t from r);subst e;exact Ci P w x t
theorem AR{P:ar}{w:aq}:∀{ks:List Key} {us:List aa},Vals (ks.map kV) us->ItemsAre (o7 P w) ks us
 |[],_,r=>by rw[eM]at r;cases r;exact .nil
 |k::ks,_,r=>by
  rw[aF]at r;cases r with
  |cons h t=>exact .cons (zB h) (AR t)
abbrev KT(H:Hp):List (List Key×V)->List (List Key×Addr×aa)->Prop:=eQ λp q=>p.1=q.1/\H q.2.1=some (.tup (p.1.map kV))/\RelV p.2 q.2.2
variable{kvs:List (List Key×V)}{xs:List (List Key×Addr×aa)}
theorem KT.val{H:Hp}(r:KT H kvs xs)(k:List Key):wI (r9 kvs k) ((atKey xs k).map (·.2)):=by
 induction r with
 |nil=>exact True.intro
 |@cons p q ps qs h t ih=>
  obtain⟨h1,_,h2⟩:=h;by_cases e:p.1=k
  ·have e':q.1=k:=h1.symm.trans e;have b:atKey (q::qs) k=some q.2:=by simp[atKey,dc,e']
   rw[xy e,b];exact h2
  ·have e':¬q.1=k:=λz=>e (h1.trans z);have b:atKey (q::qs) k=atKey qs k:=by simp[atKey,dc,e']
   rw[xA e,b];exact ih
theorem KT.repl{H:Hp}(r:KT H kvs xs)(k:List Key)(ry:RelV y u):
  KT H (kvs.map λkv=>if kv.1=k then (kv.1,y)else kv) (xs.map (putAt k u)):=by
 induction r with
 |nil=>exact .nil
 |@cons p q ps qs h t ih=>
  rw[aF,aF];refine .cons ?_ ih;obtain⟨h1,h2,h3⟩:=h;unfold putAt;by_cases e:p.1=k
  ·rw[ah e,ah (h1.symm.trans e)];exact⟨h1,h2,ry⟩
  ·rw[ai e,ai (λz=>e (h1.trans z))];exact⟨h1,h2,h3⟩
theorem KT.put{H:Hp}(r:KT H kvs xs)(k:List Key){b:Addr}(hb:H b=some (.tup (k.map kV)))(ry:RelV y u):
  KT H (putK kvs k y) (storedH xs k b u):=by
 have e:(kvs.any λkv=>decide (kv.1=k))=(atKey xs k).isSome:=by rw[zA,(r.val k).isSome_eq,kL]
 unfold putK storedH;rw[e];by_cases q:(atKey xs k).isSome=true
 ·rw[ah q,ah q];exact r.repl k ry
 ·rw[ai q,ai q];exact mF r ⟨rfl,hb,ry⟩
variable{H':Hp}
theorem KT.keeps{H:Hp}(r:KT H kvs xs)(ht:∀b ys,H b=some (.tup ys)->H' b=some (.tup ys)):KT H' kvs xs:=
 Paired.mapP r λ_ _ z=>⟨z.1,ht _ _ z.2.1,z.2.2⟩
section
variable{P:ar}{w:aq}{H:Hp}{h:Heap}{a:Addr}
theorem LX{u:HO}(ok:HOk P w H h)(e:Rd H a u):p9 P w H h a u:=e.ok ok
theorem zC{kvs:List (Key×V)}(ok:HOk P w H h)(e:Rd H a (.dK kvs)):kvs.length<=aB/\(a==cG)=false/\∃vs,KV kvs vs/\h.DictOf (o7 P w) a vs:=
 show p9 P w H h a (.dK kvs) from LX ok e
theorem LY{kvs:List (Key×V)}(ok:HOk P w H h)(e:H a=some (.dK kvs)):kvs.length<=aB/\(a==cG)=false/\∃vs,KV kvs vs/\h.DictOf (o7 P w) a vs:=zC ok (.inl e)
theorem BI{ks:List Key}(ok:HOk P w H h)(e:H a=some (.tup (ks.map kV))):(tupleKind (o7 P w)).is h ks a:=by obtain⟨_,its,r,o,h1,h2,n,h3⟩:=(show p9 P w H h a (.tup (ks.map kV)) from ok a _ e);exact⟨o,its.toArray,n,h1,h2,h3,by simpa using AR r⟩
theorem Cs(ok:HOk P w H h)(e:Rd H a (.dT kvs)):kvs.length<=aB/\(a==cG)=false/\
  ∃xs,KT H kvs xs/\h.DictOfH (tupleKind (o7 P w)) a xs:=by
 obtain⟨z,y,xs,r,o,es,ep,h1,h2,h3,h4,h5⟩:=(show p9 P w H h a (.dT kvs) from LX ok e);refine⟨z,y,xs,r,o,es,ep,h1,h2,h3,h4,λx hx=>?_,h5⟩;have all:∀{l:List (List Key×V)} {m:List (List Key×Addr×aa)},KT H l m->∀x∈m,(tupleKind (o7 P w)).is h x.1 x.2.1:=by
  intro l m q
  induction q with
  |nil=>intro x hx;exact nomatch hx
  |@cons p q ps qs hq t ih=>
   intro x hx;rcases aP.mp hx with e|hx
   ·subst e;exact BI ok (by rw[<-hq.1];exact hq.2.1)
   ·exact ih x hx
 exact all r x hx
theorem QK(ok:HOk P w H h)(e:H a=some (.dT kvs)):kvs.length<=aB/\(a==cG)=false/\
  ∃xs,KT H kvs xs/\h.DictOfH (tupleKind (o7 P w)) a xs:=Cs ok (.inl e)
end
def DGet(H:Hp)(a:Addr)(y:V)(r:Option V):Prop:=
 (∃kvs k,Rd H a (.dK kvs)/\y=kV k/\r=r9 kvs k)\/∃kvs k b,Rd H a (.dT kvs)/\y=.ref b/\H b=some (.tup (k.map kV))/\r=r9 kvs k
def G4(H:Hp)(a:Addr)(y v:V)(H':Hp):Prop:=
 (∃kvs k,H a=some (.dK kvs)/\y=kV k/\kvs.length<aB/\H'=upd H a (.dK (putK kvs k v)))\/
 ∃kvs k b,H a=some (.dT kvs)/\y=.ref b/\H b=some (.tup (k.map kV))/\kvs.length<aB/\H'=upd H a (.dT (putK kvs k v))
theorem G4.k{H:Hp}{a:Addr}{kvs:List (Key×V)}{k:Key}{v:V}(e:H a=some (.dK kvs))(hl:kvs.length<aB):G4 H a (kV k) v (upd H a (.dK (putK kvs k v))):=.inl ⟨kvs,k,e,rfl,hl,rfl⟩
variable{Q:aa->ae->Prop}{h':Heap}
section
variable{X:Cx}{pins:List (Addr×Obj)}{σ:St}{H:Hp}{s:ae}{a:Addr}{y v:V}{u r:aa}{o:Option V}{A:aw}{E:aa->ae->Prop}
theorem Inv.big(I:Inv X pins σ H s):cG<s.heap.objs.size:=by have h:aK<s.heap.objs.size:=(I.mod.glob.keeps I.bk).lt;exact gO (by decide) h
theorem FI(hu:A.units+1<cLine)(I:Inv X pins σ H s)(g:DGet H a y (some v))(ry:RelV y u)(h:∀w' s',Inv X pins σ H s'->RelV v w'->Q w' s'):
  af (model X.prog X.w) A (getItem (.ref a) u) Q E s:=by
 rcases g with ⟨kvs,k,e,ey,l⟩|⟨kvs,k,b,e,ey,eb,l⟩
 ·subst ey;obtain⟨z,hd,vs,rel,dd⟩:=zC I.hok e;obtain⟨w',hw,rw'⟩:=wI.some_of (v:=v) (o:=valueAt vs k) (by rw[l];exact rel.val k);exact wpAny_getItem_of (zB ry) dd.mapOf hw (h w' _ (I.tok _) rw')
 ·subst ey;cases (show u=Value.ref b from ry);obtain⟨z,hd,xs,rel,dd⟩:=Cs I.hok e;obtain⟨w',hw,rw'⟩:=wI.some_of (v:=v) (o:=(atKey xs k).map (·.2)) (by rw[l];exact rel.val k)
  obtain⟨p,hp,hp2⟩:=jU.mp hw;refine wpAny_getItem_heap (iH hu) (BI I.hok eb) dd hp ?_;rw[hp2];exact h w' _ (I.tok _) rw'
theorem JY(hu:A.units+1<cLine)(I:Inv X pins σ H s)(g:DGet H a y o)(ry:RelV y u)(h:∀s',Inv X pins σ H s'->Q (.bool (!o.isSome)) s'):
  af (model X.prog X.w) A (aS .NotIn u (.ref a)) Q E s:=by
 rcases g with ⟨kvs,k,e,ey,l⟩|⟨kvs,k,b,e,ey,eb,l⟩
 ·subst ey;obtain⟨z,hd,vs,rel,dd⟩:=zC I.hok e;refine lK (zB ry) hd dd.mapOf ?_;rw[<-(rel.val k).isSome_eq,<- l];exact h _ (I.tok _)
 ·subst ey;cases (show u=Value.ref b from ry);obtain⟨z,hd,xs,rel,dd⟩:=Cs I.hok e;refine wpAny_notIn_heap (iH hu) (BI I.hok eb) hd dd ?_;have q:=(rel.val k).isSome_eq;rw[kL]at q;rw[<-q,<- l];exact h _ (I.tok _)
theorem BJ{ob:HO}(I:Inv X pins σ H s)(mu:Mut (H a))(hs:eK a s.heap h')(he:∃q,h'.get? a=some q)(new:p9 X.prog X.w (upd H a ob) h' a ob):
  Inv X pins σ (upd H a ob) { s with heap:=h',toks:=t' }:=
 I.write (x:=a) (e:=a) mu (.inl rfl) (λb q hb z=>(hs.2 b hb).trans z) he new
theorem G5{P:ar}{w:aq}{kvs:List (Key×V)}{vs:List (Key×aa)}(z:kvs.length<=aB)(hd:(a==cG)=false)(rel:KV kvs vs)(dd:h'.DictOf (o7 P w) a vs):
  p9 P w H' h' a (.dK kvs):=⟨z,hd,vs,rel,dd⟩
theorem FJ{Q:Unit->ae->Prop}(hu:A.units+1<cLine)(I:Inv X pins σ H s)(g:G4 H a y v H')(ry:RelV y u)(rv:RelV v r)(h:∀s',Inv X pins σ H' s'->Q () s'):
  af (model X.prog X.w) A (setItem (.ref a) u r) Q E s:=by
 rcases g with ⟨kvs,k,e,ey,l,eH⟩|⟨kvs,k,b,e,ey,eb,l,eH⟩
 ·subst ey eH;obtain⟨z,hd,vs,rel,dd⟩:=LY I.hok e;have hz:vs.length<=aB:=by rw[<-rel.length];exact z
  have hl:(putK kvs k v).length<=aB:=by have:=vL kvs k v;omega
  refine wpAny_setItem_pairs (hsz:=hz) (zB ry) dd λh' dd' hs=>h _ ?_;have he:∃q,h'.get? a=some q:=let ⟨q,_,_,hq,_⟩:=dd';⟨q,hq⟩;exact BJ I (by rw[e];exact True.intro) hs he (G5 hl hd (rel.put k rv) dd')
 ·subst ey eH;cases (show u=Value.ref b from ry);obtain⟨z,hd,xs,rel,dd⟩:=QK I.hok e;have hz:xs.length<=aB:=by rw[<-i4 rel];exact z
  have hl:(putK kvs k v).length<=aB:=by have:=vL kvs k v;omega
  refine wpAny_setItem_heap (hsz:=hz) (iH hu) (BI I.hok eb) dd λh' dd' hs=>h _ ?_;obtain⟨q,es,ep,hq,h2,h3,h4,_,h5⟩:=dd';refine BJ I (by rw[e];exact True.intro) hs ⟨q,hq⟩ ⟨hl,hd,_,(rel.put k eb rv).keeps λc ys ec=>?_,q,es,ep,hq,h2,h3,h4,h5⟩;rw[o3 (Qh ec e (λz=>nomatch z))];exact ec
end
section
variable{X:Cx}{pins:List (Addr×Obj)}{σ:St}{H:Hp}{s:ae}{a:Addr}{kvs:List (Key×V)}{k:Key}{u:aa}{A:aw}{E:aa->ae->Prop}
theorem QL(I:Inv X pins σ H s)(e:Rd H a (.dK kvs))(h:∀t s',Inv X pins σ H s'->Q (.int kvs.length t) s'):af (model X.prog X.w) A (call (.builtin "len") [.ref a]) Q E s:=by obtain⟨z,hd,vs,rel,dd⟩:=zC I.hok e;refine call_len_dict hd dd (by rw[<-rel.length];rw[cE]at z;omega) ?_;rw[<-rel.length];exact h _ _ (I.tok _)
end
def Ni(i:Expr):Prop:=∀ov iv,subscripted i false ov iv=operate [ov,iv] (getItem ov iv)
theorem JZ{prog:ar}{w:aq}{A:aw}{E:aa->ae->Prop}{s:ae}{env:Env}{value slice:Expr}{pos:Pos}{id:String}
  (hl:typeLookup (.type T) "__getitem__" = pure (some (.builtin id))) (hs:Ni slice)
  (h:af (model prog w) A (eval value env) (λo s₁=>af (model prog w) A (eval slice env) (λi s₂=>s₂.TypeIs o T/\af (model prog w) A (getItem o i) Q E s₂) E s₁) E s):
  af (model prog w) A (eval (.Subscript value slice pos) env) Q E s:=by
 refine jv (bz h (λo s₁ h₁=>bz h₁ (λi s₂ h₂=>?_) λ_ _ x=>x) λ_ _ x=>x);obtain⟨hT,h₂⟩:=h₂;unfold subscriptTail;refine aj ?_;rw[getitemInPython_of_ne hT.not_modules];refine aj (gx hT hl ?_);have fin:af (model prog w) A (subscripted slice false o i) (λr s₃=>af (model prog w) A (letTemporaryGo value o r>>=λ_=>pure r) Q E s₃) E s₂:=by rw[hs o i];exact wpAny_operating (bz h₂ (λr s₃ h₃=>aj (wpAny_letTemporaryGo (ay h₃))) λ_ _ x=>x)
 first
  |exact ay (aj fin)
  |exact aj (ay (aj fin))
  |exact aj fin
variable{X:Cx}{a:Addr}
theorem Ct{H:Hp}{s:ae}{o:Option V}(I:Inv X pins σ H s)(g:DGet H a y o):s.TypeIs (.ref a) "dict" := by
 rcases g with ⟨kvs,k,e,_,_⟩|⟨kvs,k,b,e,_,_,_⟩
 ·obtain⟨_,_,vs,_,dd⟩:=zC I.hok e;exact dd.typeIs
 ·obtain⟨_,_,xs,_,dd⟩:=Cs I.hok e;exact dd.typeIs
def QM(td ty:TE):TE:=λσ H Q=>td σ H λx H1=>ty σ H1 λy H2=>∃a v,x=.ref a/\DGet H2 a y (some v)/\Q v H2
def EA(ty td:TE):TE:=λσ H Q=>ty σ H λy H1=>td σ H1 λx H2=>∃a o,x=.ref a/\DGet H2 a y o/\Q (.bl (!o.isSome)) H2
def LZ(td ty tv:TE):TS:=λD σ H=>tv σ H λv H1=>td σ H1 λx H2=>ty σ H2 λy H3=>∃a H4,x=.ref a/\G4 H3 a y v H4/\D.nx σ H4
section
variable{X:Cx}{o i e value:Expr}{pos pos' tpos:Pos}{td ty tv:TE}
theorem J0(hu:X.A.units+1<cLine)(ho:PE X o td)(hi:PE X i ty)(hs:Ni i):PE X (.Subscript o i pos) (QM td ty):=by intro pins s σ H Q I h;refine JZ F.slot_dict_getitem.lookup hs (thn (ho pins s σ H _ I h) λu s1 ⟨x,H1,I1,rx,q1⟩=>thn (hi pins s1 σ H1 _ I1 q1) λiv s2 zz=>?_);obtain⟨y,H2,I2,ry,a,v,ex,g,q2⟩:=zz;subst ex;obtain rfl:u=Value.ref a:=rx;exact⟨Ct I2 g,FI hu I2 g ry λw' s3 I3 rw'=>⟨v,H2,I3,rw',q2⟩⟩
theorem FK(hu:X.A.units+1<cLine)(hi:PE X i ty)(ho:PE X o td):PC X .NotIn i o (EA ty td):=by intro pins s σ H Q I h;refine thn (hi pins s σ H _ I h) λiv s1 ⟨y,H1,I1,ry,q1⟩=>thn (ho pins s1 σ H1 _ I1 q1) λu s2 zz=>?_;obtain⟨x,H2,I2,rx,a,ov,ex,g,q2⟩:=zz;subst ex;obtain rfl:u=Value.ref a:=rx;exact JY hu I2 g ry λs3 I3=>⟨.bl (!ov.isSome),H2,I3,rfl,q2⟩
theorem J1(hu:X.A.units+1<cLine)(ho:PE X o td)(hi:PE X i ty)(hv:PE X value tv)(hs:cj value (some (.Subscript o i pos')) pos.line X.env=pure false):
  PS X (.Assign [.Subscript o i pos'] value pos) (LZ td ty tv):=by
 intro pins s σ H D I h;refine wpAny_Assign_Subscript (thn (hv pins s σ H _ I h) λr s1 ⟨v,H1,I1,rv,q1⟩=>thn (ho pins s1 σ H1 _ I1 q1) λu s2 ⟨x,H2,I2,rx,q2⟩=>thn (hi pins s2 σ H2 _ I2 q2) λiv s3 zz=>?_) hs;obtain⟨y,H3,I3,ry,a,H4,ex,g,q3⟩:=zz;subst ex;obtain rfl:u=Value.ref a:=rx;exact FJ hu I3 g ry rv λs4 I4=>⟨σ,H4,I4,q3⟩
end
theorem G6{P:ar}{w:aq}{H:Hp}(h:Heap)(hb:cG<h.objs.size):p9 P w H (h.push { cls:=.type "dict", data:=.dict #[] }) h.objs.size (.dK []):=
 ⟨cb _,beq_eq_false_iff_ne.mpr (dJ (aW hb)),[],.nil,oE h⟩
def DH:TE:=λ_ H Q=>∀p,H p=none->Q (.ref p) (upd H p (.dK []))
section
variable{X:Cx}{pos:Pos}
theorem Cu:PE X (.Dict [] [] pos) DH:=λpins s σ H Q I h=>
 wpAny_Dict_empty ⟨.ref s.heap.objs.size,_,I.laid (a:=s.heap.objs.size) (o:=.dK []) (t':=s.toks) (λ_ _ q=>aM _ q) (aC _) (G6 s.heap I.big),rfl,h _ (I.hok.fresh (aC _))⟩
end
structure M2(X:Cx)(o:Expr)(m:Str)(apos:Pos)(e f:Expr)(cpos:Pos):Prop where
 base:dY o m X.env (eval o X.env)=eval o X.env
 few:((aZ cpos (az [e,f] X.env)).all (λx=>!x.1)&&(backToKw cpos (dj [] X.env)).all (λx=>x.1.isSome)
  && decide (([e,f]:List Expr).length+([]:List eU).length+(if ([]:List eU).isEmpty then 0 else 1)<30))=true
 line:(apos.endLine==cpos.line)=true
 trees:aZ cpos (az [e,f] X.env)=[(false,eval e X.env),(false,eval f X.env)]
def IsD(H:Hp)(a:Addr):Prop:=(∃kvs,Rd H a (.dK kvs))\/∃kvs,Rd H a (.dT kvs)
theorem Nj{H:Hp}{s:ae}(I:Inv X pins σ H s)(d:IsD H a):
  s.TypeIs (.ref a) "dict" /\ (∀b,Value.ref a=.ref b->∃ob,s.heap.get? b=some ob/\ob.dict=none)/\(a==cG)=false:=by
 rcases d with ⟨kvs,e⟩|⟨kvs,e⟩
 ·obtain⟨_,hd,vs,_,dd⟩:=zC I.hok e;refine⟨dd.typeIs,λb q=>?_,hd⟩;cases q;obtain⟨ob,_,_,h1,h2,_⟩:=dd;exact⟨ob,h1,h2.2.1⟩
 ·obtain⟨_,hd,xs,_,dd⟩:=Cs I.hok e;refine⟨dd.typeIs,λb q=>?_,hd⟩;cases q;obtain⟨ob,_,_,h1,h2,_⟩:=dd;exact⟨ob,h1,h2.2.1⟩
end L2
namespace Att
open PySem PySem.W PySem.Calls PyProof.Rows
theorem za{P:fW}{h:Heap}:∀(ns:List Int) (vs:List aa),WellAll P h vs (ns.map WData.int)->fV vs ns:=by
 intro ns
 induction ns with
 |nil=>intro vs w;rw[eM]at w;cases w;exact .nil
 |cons n ns ih=>
  intro vs w;rw[aF]at w;cases w with
  |cons a b=>cases a;exact .cons _ _ (ih _ b)
variable{l:fS}
theorem FL{n:Nat}(hn:l.most=some n){P:fW}{h:Heap}{args:List WData}{vals:List aa}
  (hpre:l.row.toRowW.claim.pre args=true) (hwl:WellAll P h vals args):
  ∃a vs ns,vals=[Value.ref a]/\args=[WData.list (ns.map WData.int)]/\h.get? a=some { cls:=.type "list", data:=.seq vs.toArray }/\fV vs ns/\ns.length<=n:=by
 have hsh:WShape.hasAll [] args [.list .int]=true:=(pre_splitW hpre).1;have hc:l.pre.holds [] { args:=args }=true:=(pre_splitW hpre).2;obtain⟨d,r,rfl,h1,h2⟩:=hasAllW_cons hsh;obtain rfl:=hasAllW_nil h2;obtain⟨xs,rfl,h3⟩:=hasW_list h1;obtain⟨ns,rfl⟩:=items_int h3;have hlen:ns.length<=n:=by
  unfold OpenLaw.pre at hc;have h4:(WTm.not (.lt (.lit (.int (n:Int))) (.len (.arg 0)))).holds [] { args:=[.list (ns.map .int)] }=true:=by have h4:=(holds_andW hc).1;rw[hn]at h4;exact h4
  have h5:=condW_of h4 (w_not (w_lt w_lit (w_len_list (w_arg rfl))));rw[ag]at h5;refine kW λq=>?_;have q':(n:Int)<((ns.length:Nat):Int):=by omega
  first
   |(rw[aO q']at h5;exact ao h5 (by decide))
   |(simp at h5;omega)
 cases hwl with
 |cons w1 w2=>
  cases w2;cases w1 with
  |list ho hall=>exact⟨_,_,ns,rfl,rfl,ho,za ns _ hall,hlen⟩
theorem FM(l:fS)(args:List WData):l.row.toRowW.claim.post args (.bool true) args=true:=
 postW_of (r:=l.row.toRowW) (X:=(true==true))
  (show mI [] (.bool true) .bool=true by first|rfl|decide|simp[mI,WShape.arms,WShape.armsAll])
  (show (WTm.eq .res (.lit (.bool true))).value [] { args:=args,res:=some (.bool true),after:=args }=some (.bool (true==true)) from w_eq_bool (w_res rfl) w_lit) rfl
theorem attach_call{n:Nat}{q:ar}{loose:List Str}{XP:(Str->Option aa)->Heap->Prop}{YP:aq->Heap->Prop}{d:DefRec}
  (hn:l.most=some n) (hdf:d.params.defaults=[])
  (call:∀(w:aq) (s₀ s₁:ae) (mg mb:Str->Option aa) (fa:Addr) (o:Obj) (pm cd doc:aa) (a:Addr) (vs:List aa) (ns:List Int),
   Ground q loose [] XP w s₀ mg mb s₁.heap->YP w s₁.heap->
   s₁.heap.get? fa=some o->o.data=.func (docDef d.name d.params d.body d.scope pm cd doc)->s₁.heap.CodeRec cd d.name->mg d.name=some (.ref fa)->
   s₁.heap.get? a=some { cls:=.type "list", data:=.seq vs.toArray }->fV vs ns->ns.length<=n->s₁.gens=#[]->
   bY (model l.prog w) callerA (.call (.ref fa) ⟨[.ref a],[]⟩) (λr s'=>r=.ok (.ret (.bool true))/\OldK s₁.heap s'.heap/\s'.os=s₁.os/\cU s'.gens) s₁):
  WalkO q loose XP YP l.row.toRowW d [] (λf vs=>jx f vs):=by
 intro w s₀ s₁ mg mb G Y fa o pm cd doc dV kV ho hd hcd hD hmg hg args vals as hpre hlay hrd hwl hlo;obtain rfl:dV=.none:=Dflts.none hD hdf;obtain rfl:kV=.none:=Dflts.noKw hD;obtain⟨a,vs,ns,rfl,rfl,hobj,hints,hlen⟩:=FL hn hpre hwl;refine enter_call (d0 (call w s₀ s₁ mg mb fa o pm cd doc a vs ns G Y ho (fd_plain hd) hcd hmg hobj hints hlen hg) λr s' hq=>?_);obtain⟨rfl,h2,h3,h4⟩:=hq;exact⟨.inl ⟨.bool true,.bool true,[],rfl,λ_=>rfl,.bool true,FM l _,λ_=>⟨List.Pairwise.nil,λ_ hm=>(nomatch hm)⟩⟩,h2,h3,h4⟩
end Att
namespace L2
open PySem PySem.Spec PyProof.Rows
theorem AS:∀{vs:List aa} {ns:List Int},fV vs ns->Vals (ns.map V.int) vs
 |_,_,.nil=>.nil
 |_,_,.cons n t h=>.cons ⟨t,rfl⟩ (AS h)
def Nk(H:Hp):Prop:=∀b,H b=none\/∃o xs,H b=some (.frz o (.lst xs))
variable{a:Addr}{fd:bA}{x:Str}{sp:Sp}
theorem G7{P:ar}{w:aq}{K:ak}{mg mb:Str->Option aa}{CX:CXT}{k:Nat}{fa:Addr}{s₁:ae}{vs:List aa}{ns:List Int}
  (KX:K.In s₁.heap) (hns:s₁.heap.Ns aK mg) (hb:s₁.heap.Ns builtinsNs mb) (hbb:∀x:Str,x≠"__name__" -> mb x=cO x) (hlim:s₁.heap.NoLimit) (hg:s₁.gens=#[])
  (ha:s₁.heap.get? a=some { cls:=.type "list", data:=.seq vs.toArray }) (hi:fV vs ns) (hl:ns.length<=aB) (hr:qg k callerA)
  (F:∀base:Heap,K.In base->base.Ns aK mg->rJ P w K mg base CX k fa fd [x] sp) (hbind:∀(s:ae) (u:aa),eS s fd ⟨[u],[]⟩ [(x,u)])
  (hsp:∀H:Hp,Nk H->SqL K H a (ns.map V.int)->sp [.ref a] H (λv _=>v=.bl true) λ_ _ _=>False)
  (hCX:∀H e s',CX [] H s₁ (λ_ _ _=>False) e s'->False):
  bY (model P w) callerA (.call (.ref fa) ⟨[.ref a],[]⟩) (λr s'=>r=.ok (.ret (.bool true))/\OldK s₁.heap s'.heap/\s'.os=s₁.os/\cU s'.gens) s₁:=by
 have rv:=AS hi;have lenV:=hi.length;have core:∀H:Hp,Nk H->SqL K H a (ns.map V.int)->HOk P w H s₁.heap->(∀b,H b≠none->b=a)->(H a≠none->K.lookup a=none)->
   bY (model P w) callerA (.call (.ref fa) ⟨[.ref a],[]⟩) (λr s'=>r=.ok (.ret (.bool true))/\OldK s₁.heap s'.heap/\s'.os=s₁.os/\cU s'.gens) s₁:=by
  intro H hO hS hok hA hK;have base_of:∀{b:Addr} {o:Obj},s₁.heap.get? b=some o->H b=none->(Bt s₁.heap H).get? b=some o:=λe n=>Gw e n;have noA:∀{b:Addr} {o:Obj} {es:Array DictEntry} {ep:Nat},s₁.heap.get? b=some o->o.data=.dict es ep->H b=none:=λ{b o es ep} e d=>by
   cases q:H b with
   |none=>rfl
   |some u=>have e':b=a:=hA b (by rw[q];simp);subst e';rw[ha]at e;cases e;have d':Data.seq vs.toArray _=Data.dict es ep:=d;cases d'
  have nsK:∀{b:Addr} {m:Str->Option aa},s₁.heap.Ns b m->(Bt s₁.heap H).Ns b m:=λ{b m} ⟨o,es,ep,e,d,r⟩=>⟨o,es,ep,base_of e (noA e d),d,r⟩;have hKb:K.In (Bt s₁.heap H):=λb o e=>base_of (KX b o e) (by
   cases q:H b with
   |none=>rfl
   |some u=>
    have e':b=a:=hA b (by rw[q];simp);subst e';rw[hK (by rw[q];simp)]at e;cases e)
  have hM:Mod K mg (Bt s₁.heap H):=⟨hKb,nsK hns,⟨mb,nsK hb,hbb⟩,let ⟨mc,h1,h2⟩:=hlim;⟨mc,nsK h1,h2⟩⟩;have e0:DD P w K mg (Bt s₁.heap H) callerA [] s₁ H:=⟨rfl,hM,λb o e=>JD e,mh (Fp _ _),trivial,λb hb=>ao (show b∈([]:List Addr) from hb) (by simp),hok,.of_eq hg⟩;refine d0 ((F _ hKb (nsK hns)).run callerA [] s₁ H ⟨[.ref a],[]⟩ [.ref a] [.ref a] _ _ hr e0 (hbind s₁ (.ref a)) (.cons rfl .nil) (hsp H hO hS)) λr s' h=>?_;cases r with
  |error e=>exact(hCX H e s' h).elim
  |ok fl=>
   cases fl with
   |next=>exact bU h
   |brk=>exact bU h
   |cont=>exact bU h
   |ret u=>
    obtain⟨v,H',os,bare,un,hok',r',q⟩:=h;have q':v=.bl true:=q;subst q';obtain rfl:u=Value.bool true:=r';refine⟨rfl,OldK.of_keep λb o e=>?_,os,bare⟩;cases q:H b with
    |none=>exact un.keep b o e q (by intro z;exact ao (show b∈([]:List Addr) from z) (by simp)) (by simp)
    |some u=>
     rcases hO b with z|⟨ob,xs,z⟩
     ·rw[q]at z;cases z
     ·have z2:=un.frzs b ob _ z;obtain⟨e1,_⟩:=hok b _ z;obtain⟨e2,_⟩:=hok' b _ z2;rw[e]at e1;cases e1;exact e2
 cases hk:K.lookup a with
 |some o=>have e:=KX a o hk;rw[ha]at e;cases e;refine core (λ_=>none) (λ_=>.inl rfl) (.inr ⟨_,vs.toArray,_,hk,rfl,rfl,rfl,by rw[aR,lenV];exact hl,by simpa using rv⟩) (λb u z=>by have z':(none:Option HO)=some u:=z;cases z') (λb z=>ao rfl z) λz=>ao rfl z
 |none=>
  refine core (λb=>if b=a then some (.frz { cls:=.type "list", data:=.seq vs.toArray } (.lst (ns.map V.int)))else none) (λb=>?_) (.inl (.inr ⟨{ cls:=.type "list", data:=.seq vs.toArray },ah rfl⟩)) (λb u z=>?_) (λb z=>?_) λ_=>hk
  ·by_cases hb:b=a
   ·exact .inr ⟨_,_,ah hb⟩
   ·exact .inl (ai hb)
  ·by_cases hb:b=a
   ·have z':=(ah hb).symm.trans z;cases z';subst hb;exact⟨ha,by rw[ag];exact hl,vs,_,rv,ha⟩
   ·have z':=(ai hb).symm.trans z;cases z'
  ·by_cases hb:b=a
   ·exact hb
   ·exact ao (ai hb) z
theorem J2{l:fS}{n k:Nat}{q:ar}{loose:List Str}{XP:(Str->Option aa)->Heap->Prop}{YP:aq->Heap->Prop}{d:DefRec}{K:fW->ak}{CX:aq->CXT}{sp:aq->Sp}
  (hn:l.most=some n) (hn2:n<=aB) (hdf:d.params.defaults=[]) (hr:qg k callerA)
  (hY:∀(w:aq) (h:Heap),YP w h->(K w.params).In h)
  (F:∀(w:aq) (mg:Str->Option aa) (fa:Addr) (h:Heap),(K w.params).In h->h.Ns aK mg->mg d.name=some (.ref fa)->
   ∃fd:bA,(∀(s:ae) (u:aa),eS s fd ⟨[u],[]⟩ [(x,u)])/\
    ∀base:Heap,(K w.params).In base->base.Ns aK mg->rJ l.prog w (K w.params) mg base (CX w) k fa fd [x] (sp w))
  (hsp:∀(w:aq) (H:Hp) (a:Addr) (ns:List Int),ns.length<=n->Nk H->SqL (K w.params) H a (ns.map V.int)->sp w [.ref a] H (λv _=>v=.bl true) λ_ _ _=>False)
  (hCX:∀(w:aq) (H:Hp) (s:ae) (e:aa) (s':ae),CX w [] H s (λ_ _ _=>False) e s'->False):
  W.WalkO q loose XP YP l.row.toRowW d [] (λf vs=>jx f vs):=by
 refine Att.attach_call hn hdf λw s₀ s₁ mg mb fa o pm cd doc a vs ns G Y ho hd hcd hmg hobj hints hlen hg=>?_;have KX:=hY w _ Y;obtain⟨fd,hb,hF⟩:=F w mg fa _ KX G.T.g hmg;exact G7 KX G.T.g G.T.b G.T.builtins G.T.nolimit hg hobj hints (bp hlen hn2) hr hF hb (λH hO hS=>hsp w H a ns hlen hO hS) λH e s'=>hCX w H s₁ e s'
def inClass(s:Stmt)(j:Nat):Stmt:=match s with
 |.ClassDef _ _ _ body _ _ _ _ _ _ _=>body.getD j (.Pass ⟨0,0,0,0⟩)
 |_=>.Pass ⟨0,0,0,0⟩
def rK(s:Stmt):Arguments:=match s with
 |.FunctionDef _ a _ _ _ _ _ _ _ _=>a
 |_=>{ posonlyargs:=[],args:=[],vararg:=none,kwonlyargs:=[],kw_defaults:=[],kwarg:=none,defaults:=[] }
def pA(s:Stmt):List Stmt:=match s with
 |.FunctionDef _ _ b _ _ _ _ _ _ _=>b
 |_=>[]
def o4(s:Stmt):bZ:=match s with
 |.FunctionDef _ _ _ _ _ _ sc _ _ _=>sc
 |_=>{ kind:=.function,names:=[],isGenerator:=false,isCoroutine:=false }
abbrev CX0:CXT:=λ_ _ _ _ _ _=>False
abbrev E0:XK:=λ_ _ _=>False
theorem zD{X:Cx}:Passes CX0 X E0:=λ_ _ _ _ _ _ _ h=>h.elim
structure Fun(K:ak)(x qual:Str)(st:Stmt)(f:Addr)(fd:bA):Prop where
 ex:∃(oc:aa) (od:Option Addr) (kV doc pm:aa) (an:Option Addr) (cdv ct:aa) (osl:Array (Option aa)),
  fd=dq x qual (rK st) (pA st) (o4 st) .none kV doc pm an cdv ct/\K.lookup f=some ⟨oc,od,.func fd,osl⟩/\eR K cdv qual=true
 kp:cH K (.ref f)=true
variable{qual:Str}{ps:List Str}
section
variable{P:ar}{w:aq}{K:ak}{mg:Str->Option aa}{base:Heap}
theorem Fun.ok{st:Stmt}{f:Addr}{N:List Str}{k:Nat}(F:Fun K x qual st f fd)(S:qt N ps (o4 st))(len:∀vs H Q E,sp vs H Q E->vs.length=ps.length)
  (hbody:∀(cdv:aa) (A:aw) (outer:List Env) (s:ae) (H:Hp) (vs:List V) (Q:VK) (E:XK),qg k (A.deeper (envOfC qual (o4 st) s.heap.objs.size f cdv))->sp vs H Q E->
   ∃t,PSs (By CX0 P w K mg base N qual (o4 st) f cdv A outer s H E).nox (pA st) t/\t { nx:=λ_ H'=>Q .non H',rt:=Q } (start N vs) H):rJ P w K mg base CX0 (k+1) f fd ps sp:=by
 obtain⟨oc,od,kV,doc,pm,an,cdv,ct,osl,rfl,lk,hcd⟩:=F.ex;refine Cq lk hcd S len λA outer s H vs Q E hr hsp=>?_;obtain⟨t,h,q⟩:=hbody cdv A outer s H vs Q E hr hsp;exact⟨t,h.nox,q⟩
theorem Fun.binds{st:Stmt}{f:Addr}(F:Fun K x qual st f fd)
  (h:∀(kV doc pm:aa) (an:Option Addr) (cdv ct:aa) (us:List aa),us.length=ps.length->bindArgs (dq x qual (rK st) (pA st) (o4 st) .none kV doc pm an cdv ct) ⟨us,[]⟩=pure (ps.zip us)):Binds K fd ps []:=by
 obtain⟨oc,od,kV,doc,pm,an,cdv,ct,osl,rfl,lk,hcd⟩:=F.ex;exact .all (h kV doc pm an cdv ct)
end
theorem G8{A:aw}{k:Nat}(hr:qg k A):A.units+1<cLine:=iI (Nat.add_le_add_left (by decide:1<=64) _) hr.units
theorem wq{n:Nat}(h:n<=1000):n<aB:=iI h (by decide)
section
variable{X:Cx}
theorem pv(i:Nat){pos:Pos}(hN:X.N[i]?=some x:=by rfl)(hv:Vis X.env.scope x:=by first|exact Or.inl rfl|exact Or.inr (Or.inl rfl)|exact Or.inr (Or.inr rfl))(hd:(x==("__debug__" : Str))=false:=by decide)
  (hcd:(x==("__classdict__" : Str))=false:=by decide):PE X (.Name x pos) (vH i):=MC hN hv hd hcd
end
variable{B:Prop}
theorem BK{A:Prop}(h:B):if false=true then A else B:=by rw[ai ba];exact h
theorem BL{A:Prop}(h:A):if true=true then A else B:=by rw[ah rfl];exact h
def oW(H H':Hp):Prop:=∀b o,H b=some o->H' b=some o
theorem oW.refl(H:Hp):oW H H:=λ_ _ h=>h
theorem oW.trans{H H1 H2:Hp}(a:oW H H1)(b:oW H1 H2):oW H H2:=λc o h=>b c o (a c o h)
theorem oW.seq{K:ak}{H H':Hp}{xs:List V}(e:oW H H')(h:SqL K H a xs):SqL K H' a xs:=by
 rcases h with (h|⟨o,h⟩)|h
 ·exact .inl (.inl (e _ _ h))
 ·exact .inl (.inr ⟨o,e _ _ h⟩)
 ·exact .inr h
end L2
set_option maxHeartbeats 4000000
namespace L3
open PySem PySem.Spec PyProof.Rows L2
abbrev St:=L2.St
theorem zF{α β:Type}{f:α->β->Sem (ForInStep β)}{g:β->α->β}:∀(l:List α) (b:β),(∀x∈l,∀c,f x c=pure (ForInStep.yield (g c x)))->(forIn l b f:Sem β)=pure (l.foldl g b)
 |[],b,_=>by simp
 |x::r,b,h=>by rw[List.forIn_cons,h x aG b];show (forIn r (g b x) f:Sem β)=_;rw[zF r (g b x) λy hy c=>h y (aH _ hy) c];rfl
def vy(cells:List (Str×Addr))(cs:List (Str×Addr))(x:Str×cR):List (Str×Addr):=if (x.2==NameKind.free)=true then (x.1,(cells.lookup x.1).getD 0)::cs else cs
def sJ(cells:List (Str×Addr))(names:List (Str×cR)):List (Str×Addr):=names.foldl (vy cells) []
variable{scope:bZ}{env:Env}
theorem AG(h:∀x∈scope.names,x.2=.free->∃c,env.cells.lookup x.1=some c):
  closureFor scope env=pure (sJ env.cells scope.names):=by
 simp only[closureFor];rw[zF (g:=vy env.cells) scope.names [] λx hx c=>by
  obtain⟨n,k⟩:=x;by_cases hk:k=.free
  ·subst hk;obtain⟨a,e⟩:=h _ hx rfl;have e':env.cells.lookup n=some a:=e;simp only[vy,cellOf,e',beq_self_eq_true,if_true,kX];rfl
  ·have hb:(k==NameKind.free)=false:=by simpa using hk
   simp only[vy,hb,fz,if_false]]
 rfl
theorem Cv{cells:List (Str×Addr)}:∀(names:List (Str×cR)) (acc:List (Str×Addr)),(∀x∈names,x.2=.free->∃c,cells.lookup x.1=some c)->(∀x c,acc.lookup x=some c->cells.lookup x=some c)->
  ∀x c,(names.foldl (vy cells) acc).lookup x=some c->cells.lookup x=some c
 |[],acc,_,ha,x,c,e=>ha x c e
 |y::r,acc,h,ha,x,c,e=>by
  refine Cv r (vy cells acc y) (λz hz=>h z (aH _ hz)) (λz d ez=>?_) x c e;obtain⟨n,k⟩:=y;unfold vy at ez;split at ez
  ·rename_i hk;obtain⟨a,ea⟩:=h (n,k) aG (by simpa using hk);have ea':cells.lookup n=some a:=ea;rw[dB]at ez;cases hb:z==n with
   |true=>rw[hb]at ez;have ez':some ((cells.lookup n).getD 0)=some d:=ez;rw[ea']at ez';rw[dH hb,ea'];exact ez'
   |false=>rw[hb]at ez;exact ha z d ez
  ·exact ha z d ez
theorem AU{cells:List (Str×Addr)}:∀(names:List (Str×cR)) (acc:List (Str×Addr)) (x:Str),(∃c,acc.lookup x=some c)->∃c,(names.foldl (vy cells) acc).lookup x=some c
 |[],_,_,h=>h
 |y::r,acc,x,h=>by
  refine AU r (vy cells acc y) x ?_;unfold vy;split
  ·rw[dB];cases x==y.1 with
   |true=>exact⟨_,rfl⟩
   |false=>exact h
  ·exact h
theorem zG{cells:List (Str×Addr)}:∀(names:List (Str×cR)) (acc:List (Str×Addr)) (x:Str),(x,NameKind.free)∈names->∃c,(names.foldl (vy cells) acc).lookup x=some c
 |[],_,_,h=>by cases h
 |y::r,acc,x,h=>by
  rcases aP.mp h with e|h
  ·subst e;refine AU r _ x ?_;unfold vy;rw[ah (by simp),dB];simp
  ·exact zG r _ x h
theorem uU{env:Env}(x:Str):∀(names:List (Str×cR)),
  (names.map λ(n,k)=>if (k==NameKind.free&&env.scope.kind==.function&&env.kindOf n==some .cell)then (n,NameKind.cell)else (n,k)).lookup x=
   (names.lookup x).map λk=>if (k==NameKind.free&&env.scope.kind==.function&&env.kindOf x==some .cell)=true then NameKind.cell else k
 |[]=>rfl
 |(n,k)::r=>by
  have ih:=uU (env:=env) x r;rw[aF,dB (k:=n)];show cF x ((if (k==NameKind.free&&env.scope.kind==.function&&env.kindOf n==some .cell)=true then (n,NameKind.cell)else (n,k))::_)=_;cases hx:x==n with
  |true=>
   have e:=dH hx;subst e;split
   ·rename_i hc;simp only[dB,hx,dX,hc,if_true]
   ·rename_i hc;simp only[dB,hx,dX];rw[ai hc]
  |false=>
   rw[<-ih];split
   ·simp only[dB,hx]
   ·simp only[dB,hx]
variable{x:Str}
theorem DI(hcell:∀y∈scope.names,y.2≠.cell)(h:(relabel scope env).names.lookup x=some .cell\/(relabel scope env).names.lookup x=some .free):(x,NameKind.free)∈scope.names:=by
 have e:=uU (env:=env) x scope.names;have h':(scope.names.lookup x).map (λk=>if (k==NameKind.free&&env.scope.kind==.function&&env.kindOf x==some .cell)=true then NameKind.cell else k)=some .cell\/
   (scope.names.lookup x).map (λk=>if (k==NameKind.free&&env.scope.kind==.function&&env.kindOf x==some .cell)=true then NameKind.cell else k)=some .free:=by
  rw[<-e];exact h
 cases q:scope.names.lookup x with
 |none=>rw[q]at h';rcases h' with z|z<;>cases z
 |some k=>
  rw[q]at h';have hm:=mem_of_lookup q;have hc:=hcell _ hm;cases k with
  |free=>exact hm
  |cell=>exact ao rfl hc
  |_=>rcases h' with z|z<;>cases z
theorem AH(h:scope.names.lookup x=some .free):(relabel scope env).names.lookup x=some .cell\/(relabel scope env).names.lookup x=some .free:=by
 have e:=uU (env:=env) x scope.names;have e':(relabel scope env).names.lookup x=(scope.names.lookup x).map λk=>if (k==NameKind.free&&env.scope.kind==.function&&env.kindOf x==some .cell)=true then NameKind.cell else k:=e
 rw[e',h,dX];split
 ·exact .inl rfl
 ·exact .inr rfl
def qd(X:Cx)(N':List Str)(scope:bZ)(cl:List (Str×Addr))(C:Addr)(fp:List Addr)(s:ae)(H:Hp):Cx:=
 { X with N:=N',s₀:=s,H₀:=H,env:=compEnvC scope cl C X.env,outer:=X.stack,ex:=fp,fn:=λ_=>false,pn:=[],xe:=λ_ _=>False }
def PIf(X:Cx)(ifs:List Expr)(t:TT):Prop:=
 ∀(pins:List (Addr×Obj)) (s:ae) (σ:St) (H:Hp) (Q:Bool->Hp->Prop),Inv X pins σ H s->t σ H Q->
  af (model X.prog X.w) X.A (forIn ifs true λc r=>if r=true then do let ok<-isTrue c X.env (eval c X.env);pure (ForInStep.yield ok)else pure (ForInStep.yield r)) (TP X pins σ Q) X.xe s
def Si:TT:=λ_ H Q=>Q true H
variable{X:Cx}
theorem J3:PIf X [] Si:=λ_ _ _ H _ I h=>wpAny_tests_nil ⟨H,I,h⟩
theorem J4{c:Expr}{t:TT}(h:PT X c t):PIf X [c] t:=λpins s σ H Q I hq=>wpAny_tests_one (h pins s σ H Q I hq)
variable{elt iter:Expr}{ifs:List Expr}{pos:Pos}
section
variable{prog:ar}{w:aq}{A:aw}{R:cW->ae->Prop}{s:ae}
theorem BM{target:Expr}{it acc:aa}(J:Nat->ae->Prop)
  (turn:∀n s,J n s->af (model prog w) A (pyNext it) (λr s₁=>match r with
   |none=>R (.ok .next) s₁
   |some v=>af (model prog w) A (eF target it v) (λ_ s₁'=>af (model prog w) A (assign target env v) (λ_ s₂=>
     af (model prog w) A (forIn ifs true λc r=>if r=true then do let ok<-isTrue c env (eval c env);pure (ForInStep.yield ok)else pure (ForInStep.yield r)) (λok s₃=>
      if ok=true then af (model prog w) A (eval elt env) (λx s₄=>
       af (model prog w) A (call (.builtin "list.append") [acc,x]) (λ_ s₅=>∃m,m<n/\J m s₅) (notedBy (model prog w) A env λe s'=>R (.error e) s') s₄) (notedBy (model prog w) A env λe s'=>R (.error e) s') s₃
      else ∃m,m<n/\J m s₃) (notedBy (model prog w) A env λe s'=>R (.error e) s') s₂) (notedBy (model prog w) A env λe s'=>R (.error e) s') s₁')
      (notedBy (model prog w) A env λe s'=>R (.error e) s') s₁) (notedBy (model prog w) A env λe s'=>R (.error e) s') s)
  (n:Nat) (h:J n s):
  bY (model prog w) A (.compLoop (.ListComp elt [⟨target,iter,ifs,0⟩] scope pos) 0 it acc env) R s:=by
 refine codeAny_loop rfl J (λn s hI=>?_) n h;show af _ A ((compTurn (.ListComp elt [⟨target,iter,ifs,0⟩] scope pos) 0 it acc env).onRaise (λx=>do noteFrame x env;theTreesLotGoes x)) _ _ s;refine wpAny_noted ?_;rw[compTurn_list];refine aj (i5 (aj (bz (turn n s hI) (λr s₁ h₁=>?_) λ_ _ h'=>h')));cases r with
 |none=>exact ay h₁
 |some v=>
  refine aj (bz h₁ (λ_ s₁' h₁'=>?_) λ_ _ h'=>h');refine aj (bz h₁' (λ_ s₂ h₂=>aj (bz h₂ (λok s₃ h₃=>?_) λ_ _ h'=>h')) λ_ _ h'=>h');cases ok with
  |false=>exact ay ⟨rfl,h₃⟩
  |true=>exact aj (aj (bz h₃ (λx s₄ h₄=>aj (bz h₄ (λ_ s₅ h₅=>ay (ay ⟨rfl,h₅⟩)) λ_ _ h'=>h')) λ_ _ h'=>h'))
end
def rL(k:Nat)(cap:List Nat)(σ:St):St:=gA k none++cap.map λj=>(σ[j]?).join
variable{σ:St}{i:Nat}
theorem AV{k:Nat}{cap:List Nat}{v:V}(h:(rL k cap σ)[i]?=some (some v)):k<=i:=by
 by_cases hi:k<=i
 ·exact hi
 ·unfold rL at h;rw[cY (by rw[b8];omega),f7]at h;split at h<;>cases h
variable{N N':List Str}
theorem FN{k:Nat}{cap:List Nat}{v:V}(hcap:(N'.drop k).map some=cap.map λj=>N[j]?)(hx:N'[i]?=some x)(h:(rL k cap σ)[i]?=some (some v)):
  ∃j:Nat,N[j]?=some x/\σ[j]?=some (some v)/\x∈N'.drop k:=by
 have hi:=AV h;unfold rL at h;rw[dr (by rw[b8];exact hi),b8,aY]at h;have hd:(N'.drop k)[i - k]?=some x:=by rw[c4,show k+(i - k)=i by omega];exact hx
 have e:=aX (λl=>l[i - k]?) hcap;simp only[aY,hd,dX]at e;cases q:cap[i - k]? with
 |none=>rw[q]at h;cases h
 |some j=>
  rw[q]at h e;simp only[dX,ou]at h e;refine⟨j,e.symm,?_,bF hd⟩;cases z:σ[j]? with
  |none=>rw[z]at h;cases h
  |some o=>rw[z]at h;have h':o=some v:=h;rw[h']
def zH(wi:TI)(g:TG)(tt:TT)(te:TE)(k:Nat)(cap:List Nat):TE:=λσ H Q=>wi σ H λJ H1=>∀p,H1 p=none->
 ∃W:Nat->Nat->List V->Hp->Prop,(∃m,W 0 m [] (upd H1 p (.lst [])))/\∀i m acc H2,W i m acc H2->
  (J.stop i H2/\Q (.ref p) H2)\/
   (J.go i H2/\∀x H3,J.yld i H2 x H3->g x (rL k cap σ) H3 λσ4 H4=>σ4.drop k=(rL k cap σ).drop k/\tt σ4 H4 λb H5=>
    if b=true then te σ4 H5 λy H6=>∃acc',H6 p=some (.lst acc')/\acc'.length<aB/\∃m',m'<m/\W (i+1) m' (acc'++[y]) (upd H6 p (.lst (acc'++[y])))
    else ∃m',m'<m/\W (i+1) m' acc H5)
variable{tg:Expr}{wi:TI}{tt:TT}{te:TE}
theorem AW{pins:List (Addr×Obj)}{s:ae}{H:Hp}{use:Option (aa->Sem Unit)}{P:aa->ae->Prop}{Q:V->Hp->Prop}{k:Nat}{cap:List Nat}{g:TG}
  (hc:X.calm=true) (hi:PI X tg iter wi)
  (body:∀(cl:List (Str×Addr)) (C:Addr) (fp:List Addr) (s:ae) (H:Hp),PG (qd X N' scope cl C fp s H) tg g/\PIf (qd X N' scope cl C fp s H) ifs tt/\PE (qd X N' scope cl C fp s H) elt te)
  (hkind:scope.kind=.function) (hcell:(scope.names.all λy=>y.2 != .cell)=true)
  (hloc:(scope.names.all λy=>y.2 != .local||scope.names.lookup y.1==some .local)=true)
  (hfree:(scope.names.all λy=>y.2 != .free||(X.env.kindOf y.1==some .cell||X.env.kindOf y.1==some .free))=true)
  (hlen:N'.length=k+cap.length) (hcap:(N'.drop k).map some=cap.map λj=>X.N[j]?)
  (hcf:((N'.drop k).all λx=>scope.names.lookup x==some .free)=true)
  (hs:∀x,fB iter X.env x=pure x)
  (I:Inv X pins σ H s) (h:zH wi g tt te k cap σ H Q)
  (fin:∀a C m u s4 H3,s4.heap.Ns C m->Inv X pins σ H3 s4->Bv X pins H3 C->Q (.ref a) H3->compPost (model X.prog X.w) X.A X.xe use P (.ref a) C (.ok u) s4):
  af (model X.prog X.w) X.A (comprehension (.ListComp elt [⟨tg,iter,ifs,0⟩] scope pos) scope X.env (firstIterPos [⟨tg,iter,ifs,0⟩] pos) (newList []) false (eval iter X.env) use) P X.xe s:=by
 have hcell':∀y∈scope.names,y.2≠.cell:=λy hy e=>by have z:=aD.mp hcell y hy;rw[e]at z;exact ao z (by decide)
 have hloc':∀y∈scope.names,y.2=.local->scope.names.lookup y.1=some .local:=λy hy e=>by have z:=aD.mp hloc y hy;rw[e]at z;simpa using z
 have hfree':∀y∈scope.names,y.2=.free->X.env.kindOf y.1=some .cell\/X.env.kindOf y.1=some .free:=λy hy e=>by have z:=aD.mp hfree y hy;rw[e]at z;simpa using z
 have hcl:∀y∈scope.names,y.2=.free->∃c,X.env.cells.lookup y.1=some c:=λy hy e=>I.ok.has y.1 (hfree' y hy e);refine wpAny_comprehension_free rfl hs (AG hcl) hkind hloc' (thn (hi pins s σ H _ I h) λxv s₁ h₁=>thn h₁ λit s₂ h₂=>?_);obtain⟨ita,fp,tn,J,H2,e,I2,T,st2,f2,R2⟩:=h₂;subst e;obtain⟨W,⟨m0,w0⟩,turn⟩:=R2 s₂.heap.objs.size (I2.hok.fresh (aC _));refine fC (wpAny_newFunctionEnv hcell' (by intro y hy;simp at hy) (λh₁ hns₁ hsb₁=>?_) hkind);dsimp only at hns₁ hsb₁ ⊢;generalize hp:s₂.heap.push { cls:=.type "list", dict:=none,data:=.seq ([]:List aa).toArray }=hpL at hns₁ hsb₁ ⊢;have hsz:hpL.objs.size=s₂.heap.objs.size+1:=by rw[<-hp,eI]
 have I3:Inv X pins σ (upd H2 s₂.heap.objs.size (.lst [])) { s₂ with heap:=hpL }:=by rw[<-hp];exact I2.laid (t':=s₂.toks) (λb u e=>aM _ e) (aC _) ⟨cb _,[],0,.nil,bB _ rfl⟩
 have old:∀b o,hpL.get? b=some o->h₁.get? b=some o:=λb o e=>hsb₁.extBut b o (aW (aJ e)) (aM _ e);have older:∀b o,s₂.heap.get? b=some o->hpL.get? b=some o:=λb o e=>by rw[<-hp];exact aM _ e
 have hfpS:∀b∈fp,b<s₂.heap.objs.size:=λb hb=>let ⟨o,e,_⟩:=T.obj _ _ st2 b hb;aJ e;have sub:∀x c,(sJ X.env.cells scope.names).lookup x=some c->X.env.cells.lookup x=some c:=Cv scope.names [] hcl (λx c e=>by cases e);have ok':(qd X N' scope (sJ X.env.cells scope.names) hpL.objs.size fp { s₂ with heap:=hpL } (upd H2 s₂.heap.objs.size (.lst []))).Ok:={
  mod:=I3.ok.mod
  kind:=hkind
  glob:=I3.ok.glob
  blt:=I3.ok.blt
  above:=aC _
  inj:=λx y c h1 h2=>I3.ok.inj x y c (sub x c h1) (sub y c h2)
  has:=λx hx=>zG scope.names [] x (DI hcell' hx)
  cab:=λx c hf _=>ao (show false=true from hf) ba
  hd:=I3.ok.hd
  frames:=I3.ok.frames
  stk:=.inl rfl
  exf:=λb hb=>⟨(by
   show b≠hpL.objs.size;rw[hsz];exact aW (dy (hfpS b hb))),λx c e=>(f2 b hb).2.2.2.2.1 x c (sub x c e)⟩
  bs:=I3.bs
  bsz:=bp I3.ok.bsz I3.sz
  noex:=λb o e hb=>by
   rcases(f2 b hb).2.2.2.1 with z|z
   ·exact I3.ok.noex b o e z
   ·exact ao (bQ (aJ e) (bp I3.ok.bsz z)) (dE _)
  exfs:=λb hb z=>(aP.mp (I3.stkSub b z)).elim (f2 b hb).2.1 (f2 b hb).2.2.1
  funs:=I3.stack
  frf:=I3.stkFree }
 have IX:Inv (qd X N' scope (sJ X.env.cells scope.names) hpL.objs.size fp { s₂ with heap:=hpL } (upd H2 s₂.heap.objs.size (.lst []))) [] (rL k cap σ) (upd H2 s₂.heap.objs.size (.lst []))
   { s₂ with heap:=h₁,toks:=s₂.toks+([]:List (Str×aa)).length }:={
  ok:=ok'
  os:=rfl
  bare:=I3.bare
  base:=Un.kept old
  loc:=⟨_,hns₁,λi x v e1 e2 _=>by
   obtain⟨j,hj,hσ,hm⟩:=FN hcap e1 e2;have hx:scope.names.lookup x=some .free:=by simpa using aD.mp hcf x hm
   have hk:=hfree' (x,.free) (mem_of_lookup hx) rfl;obtain⟨m,hn,hl⟩:=I3.loc;obtain⟨u,r,lk⟩:=hl j x v hj hσ (hk.elim (λz=>.inr (.inl z)) λz=>.inr (.inr z));refine⟨u,r,.inr ⟨AH hx,?_⟩⟩;rcases lk with ⟨z,_⟩|⟨_,c,e,o,ho,hd⟩
   ·rcases hk with y|y
    ·rw[y]at z;cases z
    ·rw[y]at z;cases z
   ·obtain⟨c',e'⟩:=zG (cells:=X.env.cells) scope.names [] x (mem_of_lookup hx);have ec:=sub x c' e';rw[e]at ec;have ec':c=c':=bW ec;subst ec';exact⟨c,e',o,old _ _ ho,hd⟩⟩
  cell:=λx c e=>by obtain⟨v,o,ho,hd⟩:=I3.cell x c (sub x c e);exact⟨v,o,old _ _ ho,hd⟩
  free:=I3.hok.fresh (aC _)
  freeC:=λx c e=>I3.freeC x c (sub x c e)
  pin:=λp hp=>ao (show p∈([]:List (Addr×Obj)) from hp) (by simp)
  hok:=I3.hok.kept old
  len:=by
   show (rL k cap σ).length=N'.length;rw[hlen];unfold rL;rw[au,b8,ag] }
 have stat:∀{H':Hp},(∀b∈fp,H' b=none)->∀b∈fp,Bv (qd X N' scope (sJ X.env.cells scope.names) hpL.objs.size fp { s₂ with heap:=hpL } (upd H2 s₂.heap.objs.size (.lst []))) [] H' b:=λhn b hb=>⟨hn b hb,(ok'.exf b hb).1,ok'.exfs b hb,.inl hb,(ok'.exf b hb).2,λp hp=>ao (show p∈([]:List (Addr×Obj)) from hp) (by simp)⟩
 have st4:tn 0 h₁:=T.keep _ _ _ st2 λb _ o e=>old b o (older b o e);have loop:bY (model X.prog X.w) X.A (.compLoop (.ListComp elt [⟨tg,iter,ifs,0⟩] scope pos) 0 (.ref ita) (.ref s₂.heap.objs.size) (compEnvC scope (sJ X.env.cells scope.names) hpL.objs.size X.env))
   (compPost (model X.prog X.w) X.A X.xe use P (.ref s₂.heap.objs.size) hpL.objs.size) { s₂ with heap:=h₁,toks:=s₂.toks+([]:List (Str×aa)).length }:=by
  refine BM (λn s'=>∃i acc H',Inv (qd X N' scope (sJ X.env.cells scope.names) hpL.objs.size fp { s₂ with heap:=hpL } (upd H2 s₂.heap.objs.size (.lst []))) [] (rL k cap σ) H' s'/\tn i s'.heap/\(∀b∈fp,H' b=none)/\W i n acc H')
   ?_ m0 ⟨0,[],_,IX,st4,λb hb=>?_,w0⟩
  ·rintro n s3 ⟨i,acc,H3,I4,st3,fr3,w3⟩;rcases turn i n acc H3 w3 with ⟨stop,qn⟩|⟨go,step⟩
   ·refine thn (T.done (qd X N' scope (sJ X.env.cells scope.names) hpL.objs.size fp { s₂ with heap:=hpL } (upd H2 s₂.heap.objs.size (.lst []))) rfl rfl rfl hc i [] s3 _ H3 _ I4 (stat fr3) st3 stop) λr s4 zz=>?_;obtain⟨hr,I5⟩:=zz;subst hr;obtain⟨m,hn,_⟩:=id I5.loc;have U:=I5.base;refine fin _ _ m _ _ _ hn (I3.call' (s':=s4) (ch:=fp) I5.os ⟨λb o e n hb hx=>U.keep b o e n hb hx,λb o e n hb hx=>U.slot b o e n hb hx,U.free,λb o e hx=>U.there b o e hx,U.tups,U.frzs,U.tbls⟩ I5.hok I5.bare
     λb hb=>⟨(f2 b hb).2.2.2.1,(f2 b hb).2.1,(f2 b hb).2.2.2.2.1,(f2 b hb).2.2.2.2.2⟩) (I3.fpOk (aC _) I5.free) qn
   ·refine thn (T.item (qd X N' scope (sJ X.env.cells scope.names) hpL.objs.size fp { s₂ with heap:=hpL } (upd H2 s₂.heap.objs.size (.lst []))) rfl rfl rfl hc i [] s3 _ H3 _ I4 (stat fr3) st3 go) λr s4 zz=>?_;obtain⟨u,hr,h4⟩:=zz;subst hr;refine thn h4 λ_ s5 zz=>?_;obtain⟨x,H5,I5,r5,y5,st5,fr5⟩:=zz;have I5':=I5.pinned (stat fr5) (T.obj _ _ st5);have again:∀{H8:Hp} {s8:ae} {σ8:St} {acc8:List V} {m':Nat},Inv (qd X N' scope (sJ X.env.cells scope.names) hpL.objs.size fp { s₂ with heap:=hpL } (upd H2 s₂.heap.objs.size (.lst []))) ([]++zt fp s5.heap) σ8 H8 s8->σ8.drop k=(rL k cap σ).drop k->m'<n->W (i+1) m' acc8 H8->
      ∃m,m<n/\∃i acc H',Inv (qd X N' scope (sJ X.env.cells scope.names) hpL.objs.size fp { s₂ with heap:=hpL } (upd H2 s₂.heap.objs.size (.lst []))) [] (rL k cap σ) H' s8/\tn i s8.heap/\(∀b∈fp,H' b=none)/\W i m acc H':=λ{H8 s8 σ8 acc8 m'} I8 hd8 hm8 w8=>by
     refine⟨m',hm8,i+1,acc8,H8,I8.unpinned.weak (IX.len.trans I8.len.symm) (λj v e=>?_),T.keep _ _ _ st5 λb hb o e=>(I8.pin (b,o) (bh _ (bh _ (tD hb e)))).1,λb hb=>?_,w8⟩
     ·have hj:=AV e;have q:(σ8.drop k)[j - k]?=((rL k cap σ).drop k)[j - k]?:=by rw[hd8]
      rw[c4,c4,show k+(j - k)=j by omega]at q;rw[q];exact e
     ·obtain⟨o,e,d⟩:=T.obj _ _ st5 b hb;exact(I8.pin (b,o) (bh _ (bh _ (tD hb e)))).2.1
    refine bz ((body _ _ _ _ _).1 _ s5 _ H5 x u _ I5' r5 (step x H5 y5)) (λ_ s6 h6=>?_) λ_ _ f=>f.elim;obtain⟨σ6,H6,I6,hd6,q6⟩:=h6;refine bz ((body _ _ _ _ _).2.1 _ s6 σ6 H6 _ I6 q6) (λb s7 h7=>?_) λ_ _ f=>f.elim;obtain⟨H7,I7,q7⟩:=h7;cases b with
    |false=>rw[ai ba]at q7;rw[ai ba];obtain⟨m',hm',w7⟩:=q7;exact again I7 hd6 hm' w7
    |true=>rw[ah rfl]at q7;rw[ah rfl];refine bz ((body _ _ _ _ _).2.2 _ s7 σ6 H7 _ I7 q7) (λyv s8 h8=>?_) λ_ _ f=>f.elim;obtain⟨y,H8,I8,r8,acc',hp8,hl8,m',hm',w8⟩:=h8;refine bz (yi (X:=qd X N' scope (sJ X.env.cells scope.names) hpL.objs.size fp { s₂ with heap:=hpL } (upd H2 s₂.heap.objs.size (.lst []))) _ s8 σ6 H8 (.ref s₂.heap.objs.size) [y] (.ref s₂.heap.objs.size) [yv] (λ_ Hx=>Hx=upd H8 s₂.heap.objs.size (.lst (acc'++[y]))) I8 rfl (.cons r8 .nil) ⟨_,acc',y,rfl,rfl,hp8,hl8,rfl⟩) (λ_ s9 h9=>?_) λ_ _ f=>f.elim;obtain⟨_,H9,I9,_,e9⟩:=h9;subst e9;exact again I9 hd6 hm' w8
  ·have z:b≠s₂.heap.objs.size:=aW (hfpS b hb);rw[o3 z];exact(f2 b hb).1
 exact codeAny_compStart_list loop (T.self _ 0 _ _ _ st4 loop)
theorem J7{k:Nat}{cap:List Nat}{g:TG}
  (hc:X.calm=true) (hi:PI X tg iter wi)
  (body:∀(cl:List (Str×Addr)) (C:Addr) (fp:List Addr) (s:ae) (H:Hp),PG (qd X N' scope cl C fp s H) tg g/\PIf (qd X N' scope cl C fp s H) ifs tt/\PE (qd X N' scope cl C fp s H) elt te)
  (hkind:scope.kind=.function:=by rfl) (hcell:(scope.names.all λy=>y.2 != .cell)=true:=by rfl)
  (hloc:(scope.names.all λy=>y.2 != .local||scope.names.lookup y.1==some .local)=true:=by rfl)
  (hfree:(scope.names.all λy=>y.2 != .free||(X.env.kindOf y.1==some .cell||X.env.kindOf y.1==some .free))=true:=by rfl)
  (hlen:N'.length=k+cap.length:=by rfl) (hcap:(N'.drop k).map some=cap.map λj=>X.N[j]?:=by rfl)
  (hcf:((N'.drop k).all λx=>scope.names.lookup x==some .free)=true:=by rfl)
  (hs:∀x,fB iter X.env x=pure x:=by intro _;rfl):
  PE X (.ListComp elt [⟨tg,iter,ifs,0⟩] scope pos) (zH wi g tt te k cap):=by
 intro pins s σ H Q I h;exact AW hc hi body hkind hcell hloc hfree hlen hcap hcf hs I h λa C m u s4 H3 hn back fpC qn=>⟨m,hn,λh' hs'=>⟨.ref a,H3,back.turned (t':=s4.toks) (λb o hb e=>(hs'.2 b hb).trans e) fpC.1 fpC.2.1 fpC.2.2.2.1 fpC.2.2.2.2.1 fpC.2.2.2.2.2,rfl,qn⟩⟩
def Its(x:Str):It:=⟨λi _=>i<x.cps.size,λi H v H'=>H'=H/\∃c,x.cps[i]?=some c/\v=.str ⟨#[c]⟩,λi _=>i=x.cps.size⟩
theorem Nl{M:Model}{A:aw}{E:aa->ae->Prop}{s:ae}{it:Addr}{c:Str}{t:Tok}{Q:Unit->ae->Prop}(hQ:Q () s):af M A (eF tg (.ref it) (.str c t)) Q E s:=by unfold eF;cases tg<;>exact ay hQ
theorem Cy{P:ar}{w:aq}{K:ak}(it:Addr)(ty:String)(x:Str)(t:Tok)
  (hW:∀A:aw,A.handled=none->Walks P w A it [it] [it] x.cps.size (SignAt x) (λi h=>h.IsStrIter it ty x t i))
  (hS:∀(A:aw) (i:Nat) (s:ae) (Q:aa->ae->Prop) (E:aa->ae->Prop),s.heap.IsStrIter it ty x t i->Q (.ref it) s->af (model P w) A (pyIter (.ref it)) Q E s):
  Turn P w K tg (Its x) [it] it (λi h=>h.IsStrIter it ty x t i) where
 mem:=by simp
 obj:=λi h st b hb=>by
  have e:b=it:=by simpa using hb
  subst e;obtain⟨o,e,c,d⟩:=st;exact⟨o,e,λv z=>by rw[d]at z;cases z⟩
 keep:=λi h h' st k=>by obtain⟨o,e,r⟩:=st;exact⟨o,k it (by simp) o e,r⟩
 item:=by intro X hP hw hK hc i pins s σ H E I hf st hg;subst hP hw hK;obtain⟨f0,f1,f2,f3,f4,f5⟩:=hf it (by simp);refine(hW _ (I.ok.hd hc)).item i s _ _ hg st λv h' tk hv st' kk=>?_;obtain⟨c,t',hc',rfl⟩:=hv;have I1:Inv X pins σ H { s with heap:=h',toks:=tk }:=I.turned (λb o hb e=>kk b o (by simpa using hb) e) f0 f1 f3 f4 f5;exact⟨_,rfl,Nl ⟨.str ⟨#[c]⟩,H,I1,⟨t',rfl⟩,⟨rfl,c,hc',rfl⟩,st',λb hb=>(hf b hb).1⟩⟩
 done:=by intro X hP hw hK hc i pins s σ H E I hf st hg;subst hP hw hK;obtain⟨f0,f1,f2,f3,f4,f5⟩:=hf it (by simp);have hg':i=x.cps.size:=hg;subst hg';exact(hW _ (I.ok.hd hc)).done s _ _ st λh' tk kk=>⟨rfl,I.turned (λb o hb e=>kk b o (by simpa using hb) e) f0 f1 f3 f4 f5⟩
 self:=hS
variable{l:Expr}{tl:TE}
section
variable{X:Cx}{tg:Expr}
def QN(tl:TE):TI:=λσ H R=>tl σ H λv H1=>∃x,v=.str x/\R (Its x) H1
theorem Nm(hl:PE X l tl):PI X tg l (QN tl):=by
 intro pins s σ H R I h;refine thn (hl pins s σ H _ I h) λv s1 zz=>?_;obtain⟨x,H1,I1,r1,q1⟩:=zz;obtain⟨z,e,q⟩:=q1;subst e;obtain⟨t,rfl⟩:=r1;have fp:∀b∈[s1.heap.objs.size],Bv X pins H1 b:=λb hb=>by
  have e:b=s1.heap.objs.size:=by simpa using hb
  subst e;exact I1.fpOk (aC _) (I1.hok.fresh (aC _))
 cases ha:z.cps.all (· < 128)
 ·refine wpAny_pyIter_wide ha ⟨s1.heap.objs.size,[s1.heap.objs.size],_,_,H1,rfl,I1.kept (t':=s1.toks) λb o e=>aM _ e,Cy _ "str_iterator" z t (λA hA=>Walks.strWide hA _ z t) (λA i s Q E st hQ=>wpAny_pyIter_striter_wide st hQ),⟨_,bB _ rfl,rfl,rfl⟩,fp,q⟩
 ·refine wpAny_pyIter_ascii ha ⟨s1.heap.objs.size,[s1.heap.objs.size],_,_,H1,rfl,I1.kept (t':=s1.toks) λb o e=>aM _ e,Cy _ "str_ascii_iterator" z t (λA hA=>Walks.strAscii hA _ z t) (λA i s Q E st hQ=>wpAny_pyIter_striter_ascii st hQ),⟨_,bB _ rfl,rfl,rfl⟩,fp,q⟩
end
section
variable{X:Cx}
theorem FP:OpR X (aS .LtE) (λx y H Q=>∃i j,x=.str i/\y=.str j/\Q (.bl (!decide (j.cps.toList<i.cps.toList))) H):=by intro pins s σ H x y v u Q I rx ry h;obtain⟨i,j,rfl,rfl,q⟩:=h;obtain⟨t,rfl⟩:=rx;obtain⟨t',rfl⟩:=ry;exact PySem.P.le_str (pD I q rfl)
theorem G9(hc:X.calm=true):qC X (.builtin "all") (λxs H Q=>∃(p:Addr) (bs:List Bool),xs=[.ref p]/\SqL X.K H p (bs.map V.bl)/\Q (.bl (bs.all id)) H):=by
 intro pins s σ H xs us Q I r h;obtain⟨p,bs,rfl,hq,q⟩:=h;obtain⟨u,rfl,ru⟩:=vals1 r;cases ru;obtain⟨its,rv,pl,hz⟩:=I.list hq;have hlt:p<s.heap.objs.size:=by obtain⟨o,ho,_⟩:=pl.isList;exact aJ ho
 have hl:bs.length=its.length:=by have:=rv.length;rw[ag]at this;exact this
 refine call_all_walk (fA pl.isList ⟨s.heap.objs.size,_,_,_,_,_,λi=>(bs[i]?).getD true,rfl,gZ (show X.A.in1.handled=none from I.ok.hd hc) _ p (aW hlt) its.toArray,⟨⟨_,bB _ rfl,rfl,rfl⟩,?_⟩,?_,λh' tk hk=>?_⟩)
 ·exact pl.isList.at λo e=>aM _ e
 ·intro i v s' Q' E' hv hQ';have hv':its[i]?=some v:=by simpa using hv
  have hi:i<its.length:=(br.mp hv').1;have hb:(bs.map V.bl)[i]?=some (.bl (bs[i]'(by omega))):=by simp[show i<bs.length by omega]
  obtain⟨u,hu,ru⟩:=rv.get hb;rw[hv']at hu;cases hu;cases ru;refine cz ?_;have e:(bs[i]?).getD true=bs[i]'(by omega):=by simp[show i<bs.length by omega]
  rw[<-e];exact hQ'
 ·refine⟨.bl (bs.all id),H,?_,?_,q⟩
  ·exact I.kept (t':=tk) λb o e=>hk b o (by simp;exact aW (aJ e)) (aM _ e)
  ·show Value.bool _=Value.bool _;congr 1;rw[aR,<- hl];rw[bS];simp only[aD,bN,id];constructor
   ·intro hh b hb;obtain⟨i,hi,rfl⟩:=dQ.mp hb;have:=hh i hi;simpa [hi]using this
   ·intro hh i hi;simp only[aQ hi,kX];exact hh _ (fG hi)
end
inductive Dq where
 |non|bl (b:Bool)|int (i:Int)|str (x:Str)|tup (ds:List Dq)|lst (ds:List Dq)
mutual
def Rep(K:ak)(H:Hp):Dq->V->Prop
 |.non,v=>v=.non
 |.bl b,v=>v=.bl b
 |.int i,v=>v=.int i
 |.str x,v=>v=.str x
 |.tup ds,v=>∃a xs,v=.ref a/\SqT K H a xs/\oN K H ds xs
 |.lst ds,v=>∃a xs,v=.ref a/\SqL K H a xs/\oN K H ds xs
def oN(K:ak)(H:Hp):List Dq->List V->Prop
 |[],xs=>xs=[]
 |d::ds,xs=>∃v r,xs=v::r/\Rep K H d v/\oN K H ds r
end
mutual
def eqD:Dq->Dq->Bool
 |.non,.non=>true
 |.bl a,.bl b=>a==b
 |.bl a,.int b=>(if a then 1 else 0)==b
 |.int a,.bl b=>a==(if b then 1 else 0)
 |.int a,.int b=>a==b
 |.str a,.str b=>a==b
 |.tup a,.tup b=>uV a b
 |.lst a,.lst b=>uV a b
 |_,_=>false
def uV:List Dq->List Dq->Bool
 |[],[]=>true
 |a::r,b::q=>eqD a b&&uV r q
 |_,_=>false
end
mutual
def dpt:Dq->Nat
 |.tup ds=>qr ds+1
 |.lst ds=>qr ds+1
 |_=>0
def qr:List Dq->Nat
 |[]=>0
 |d::r=>max (dpt d) (qr r)
end
mutual
theorem He:∀d:Dq,eqD d d=true
 |.non=>by unfold eqD;rfl
 |.bl b=>by unfold eqD;simp
 |.int i=>by unfold eqD;simp
 |.str x=>by unfold eqD;simp
 |.tup ds=>by unfold eqD;exact yj ds
 |.lst ds=>by unfold eqD;exact yj ds
theorem yj:∀ds:List Dq,uV ds ds=true
 |[]=>by unfold uV;rfl
 |d::r=>by unfold uV;rw[He d,yj r];rfl
end
theorem oM{K:ak}{H:Hp}:∀{ds:List Dq} {xs:List V},oN K H ds xs->ds.length=xs.length
 |[],xs,h=>by unfold oN at h;subst h;rfl
 |d::ds,xs,h=>by unfold oN at h;obtain⟨v,r,rfl,_,h2⟩:=h;rw[aA,aA,oM h2]
def eAt(ds ds':List Dq)(j:Nat):Bool:=match ds[j]?,ds'[j]? with
 |some a,some b=>eqD a b
 |_,_=>true
theorem zI:∀(ds ds':List Dq),uV ds ds'=true ↔ ds.length=ds'.length/\∀j,j<ds.length->eAt ds ds' j=true
 |[],[]=>by simp[uV]
 |[],b::q=>by simp[uV]
 |a::r,[]=>by simp[uV]
 |a::r,b::q=>by
  have ih:=zI r q;unfold uV;rw[aE,ih,aA,aA];constructor
  ·rintro⟨h1,h2,h3⟩;refine⟨by omega,λj hj=>?_⟩;cases j with
   |zero=>exact h1
   |succ j=>exact h3 j (by omega)
  ·rintro⟨h1,h2⟩;exact⟨h2 0 (by omega),by omega,λj hj=>h2 (j+1) (by omega)⟩
variable{ds ds':List Dq}
theorem uW{n m:Nat}(hn:ds.length=n)(hm:ds'.length=m):((aT (min n m)).all (eAt ds ds')&&n==m)=uV ds ds':=by
 rw[bS,zI,aE,aD];subst hn hm;constructor
 ·rintro⟨h1,h2⟩;have e:ds.length=ds'.length:=by simpa using h2
  exact⟨e,λj hj=>h1 j (bN.mpr (by omega))⟩
 ·rintro⟨e,h⟩;exact⟨λj hj=>h j (by have:=bN.mp hj;omega),by simpa using e⟩
theorem vM{n:Nat}(hn:ds.length=n)(hm:ds'.length=n):(aT n).all (eAt ds ds')=uV ds ds':=by rw[<-uW hn hm];simp
theorem zJ(h:ds.length≠ds'.length):uV ds ds'=false:=by
 cases e:uV ds ds' with
 |false=>rfl
 |true=>exact ao ((zI ds ds').mp e).1 h
section
variable{X:Cx}{pins:List (Addr×Obj)}{σ:St}{H:Hp}{s:ae}
theorem L0(I:Inv X pins σ H s){a:Addr}{xs ys:List V}(h:SqL X.K H a xs)(h':SqT X.K H a ys):False:=by obtain⟨its,_,p,_⟩:=I.list h;obtain⟨its',_,p',_⟩:=I.tuple h';exact SeqAt.ne_of_list_tuple p.isList (show s.heap.IsTuple a its'.toArray from p') rfl
mutual
theorem zK(I:Inv X pins σ H s):∀(d d':Dq) (v:V),Rep X.K H d v->Rep X.K H d' v->eqD d d'=true
 |.non,d',v,h,h'=>by unfold Rep at h;subst h;cases d'<;>unfold Rep at h'<;>first|rfl|(exact nomatch h')|(obtain⟨_,_,e,_⟩:=h';exact nomatch e)
 |.bl b,d',v,h,h'=>by unfold Rep at h;subst h;cases d'<;>unfold Rep at h'<;>first|(obtain⟨_,_,e,_⟩:=h';cases e)|(cases h'<;>simp[eqD])
 |.int b,d',v,h,h'=>by unfold Rep at h;subst h;cases d'<;>unfold Rep at h'<;>first|(obtain⟨_,_,e,_⟩:=h';cases e)|(cases h'<;>simp[eqD])
 |.str b,d',v,h,h'=>by unfold Rep at h;subst h;cases d'<;>unfold Rep at h'<;>first|(obtain⟨_,_,e,_⟩:=h';cases e)|(cases h'<;>simp[eqD])
 |.tup ds,d',v,h,h'=>by
  unfold Rep at h;obtain⟨a,xs,rfl,hq,hr⟩:=h;cases d' with
  |tup ds'=>unfold Rep at h';obtain⟨a',xs',e,hq',hr'⟩:=h';cases e;have ex:=I.tuple_inj hq hq';subst ex;unfold eqD;exact yk I ds ds' xs hr hr'
  |lst ds'=>unfold Rep at h';obtain⟨a',xs',e,hq',hr'⟩:=h';cases e;exact(L0 I hq' hq).elim
  |_=>unfold Rep at h';exact nomatch h'
 |.lst ds,d',v,h,h'=>by
  unfold Rep at h;obtain⟨a,xs,rfl,hq,hr⟩:=h;cases d' with
  |lst ds'=>unfold Rep at h';obtain⟨a',xs',e,hq',hr'⟩:=h';cases e;have ex:=I.list_inj hq hq';subst ex;unfold eqD;exact yk I ds ds' xs hr hr'
  |tup ds'=>unfold Rep at h';obtain⟨a',xs',e,hq',hr'⟩:=h';cases e;exact(L0 I hq hq').elim
  |_=>unfold Rep at h';exact nomatch h'
theorem yk(I:Inv X pins σ H s):∀(ds ds':List Dq) (xs:List V),oN X.K H ds xs->oN X.K H ds' xs->uV ds ds'=true
 |[],ds',xs,h,h'=>by
  unfold oN at h;subst h;cases ds' with
  |nil=>rfl
  |cons d r=>unfold oN at h';obtain⟨_,_,e,_⟩:=h';exact nomatch e
 |d::ds,ds',xs,h,h'=>by
  unfold oN at h;obtain⟨v,r,rfl,h1,h2⟩:=h;cases ds' with
  |nil=>unfold oN at h';exact nomatch h'
  |cons d' r'=>unfold oN at h';obtain⟨v',q,e,h1',h2'⟩:=h';cases e;unfold uV;rw[zK I d d' v h1 h1',yk I ds r' r h2 h2'];rfl
end
mutual
theorem Hf(I:Inv X pins σ H s):∀(d d':Dq) (x y:V) (u v:aa) (A:aw),Rep X.K H d x->Rep X.K H d' y->RelV x u->RelV y v->A.units+dpt d+dpt d'<cLine->fR A s u v (eqD d d')
 |.tup ds,d',x,y,u,v,A,hx,hy,ru,rv,hu=>by
  unfold Rep at hx;obtain⟨a,xs,rfl,hq,hr⟩:=hx;cases ru;obtain⟨its,rx,p,_⟩:=I.tuple hq;have p:s.heap.IsTuple a its.toArray:=p;cases d' with
  |non=>unfold Rep at hy;subst hy;cases rv;exact nE p (by omega)
  |bl b=>unfold Rep at hy;subst hy;cases rv;exact nF b p (by omega)
  |int b=>unfold Rep at hy;subst hy;obtain⟨t,rfl⟩:=rv;exact nP b t p (by omega)
  |str b=>unfold Rep at hy;subst hy;obtain⟨t,rfl⟩:=rv;exact nQ b t p (by omega)
  |lst ds'=>unfold Rep at hy;obtain⟨b,ys,rfl,hq',hr'⟩:=hy;cases rv;obtain⟨its',ry,p',_⟩:=I.list hq';exact nG p p'.isList (by omega)
  |tup ds'=>
   have hy0:=hy;unfold Rep at hy;obtain⟨b,ys,rfl,hq',hr'⟩:=hy;cases rv;obtain⟨its',ry,p',_⟩:=I.tuple hq';have p':s.heap.IsTuple b its'.toArray:=p';by_cases hab:a=b
   ·subst hab;have e:eqD (.tup ds) (.tup ds')=true:=zK I _ _ (.ref a) (by unfold Rep;exact⟨a,xs,rfl,hq,hr⟩) hy0;rw[e];exact iW _
   ·have hd:dpt (.tup ds)=qr ds+1:=by rw[dpt]
    have hd':dpt (.tup ds')=qr ds'+1:=by rw[dpt]
    have q:=ox (A:=A) (e:=eAt ds ds') p p' (by omega) λj h1 h2=>by have z:=uX I ds ds' xs ys its its' A.in1 hr hr' rx ry (by show A.units+1+qr ds+qr ds'<cLine;omega) j (by simpa using h1) (by simpa using h2);simpa using z
    rw[uW (by rw[oM hr,rx.length];simp) (by rw[oM hr',ry.length];simp)]at q;exact iJ hab (by unfold eqD;exact q)
 |.lst ds,d',x,y,u,v,A,hx,hy,ru,rv,hu=>by
  unfold Rep at hx;obtain⟨a,xs,rfl,hq,hr⟩:=hx;cases ru;obtain⟨its,rx,p,_⟩:=I.list hq;have p:=p.isList;cases d' with
  |non=>unfold Rep at hy;subst hy;cases rv;exact nR p (by omega)
  |bl b=>unfold Rep at hy;subst hy;cases rv;exact nT b p (by omega)
  |int b=>unfold Rep at hy;subst hy;obtain⟨t,rfl⟩:=rv;exact oa b t p (by omega)
  |str b=>unfold Rep at hy;subst hy;obtain⟨t,rfl⟩:=rv;exact oe b t p (by omega)
  |tup ds'=>unfold Rep at hy;obtain⟨b,ys,rfl,hq',hr'⟩:=hy;cases rv;obtain⟨its',ry,p',_⟩:=I.tuple hq';exact nH p (show s.heap.IsTuple b its'.toArray from p') (by omega)
  |lst ds'=>
   have hy0:=hy;unfold Rep at hy;obtain⟨b,ys,rfl,hq',hr'⟩:=hy;cases rv;obtain⟨its',ry,p',_⟩:=I.list hq';have p':=p'.isList;by_cases hab:a=b
   ·subst hab;have e:eqD (.lst ds) (.lst ds')=true:=zK I _ _ (.ref a) (by unfold Rep;exact⟨a,xs,rfl,hq,hr⟩) hy0;rw[e];exact iW _
   ·have hd:dpt (.lst ds)=qr ds+1:=by rw[dpt]
    have hd':dpt (.lst ds')=qr ds'+1:=by rw[dpt]
    by_cases hl:its.length=its'.length
    ·have q:=oB (A:=A) (e:=eAt ds ds') p p' (by simpa using hl) (by omega) λj h1 h2=>by have z:=uX I ds ds' xs ys its its' A.in1 hr hr' rx ry (by show A.units+1+qr ds+qr ds'<cLine;omega) j (by simpa using h1) (by simpa using h2);simpa using z
     rw[vM (by rw[oM hr,rx.length];simp) (by rw[oM hr',ry.length,<- hl];simp)]at q;exact iJ hab (by unfold eqD;exact q)
    ·have e:eqD (.lst ds) (.lst ds')=false:=by unfold eqD;exact zJ (by rw[oM hr,oM hr',rx.length,ry.length];exact hl)
     rw[e];exact iJ hab (ny p p' (by simpa using hl) (by omega))
 |.non,d',x,y,u,v,A,hx,hy,ru,rv,hu=>by
  unfold Rep at hx;subst hx;cases d' with
  |tup ds'=>unfold Rep at hy;obtain⟨b,ys,rfl,hq',hr'⟩:=hy;cases rv;cases ru;obtain⟨its',ry,p',_⟩:=I.tuple hq';exact nI (show s.heap.IsTuple b its'.toArray from p') (by omega)
  |lst ds'=>unfold Rep at hy;obtain⟨b,ys,rfl,hq',hr'⟩:=hy;cases rv;cases ru;obtain⟨its',ry,p',_⟩:=I.list hq';exact nV p'.isList (by omega)
  |_=>unfold Rep at hy;subst hy;exact zz ru rv rfl rfl
 |.bl c,d',x,y,u,v,A,hx,hy,ru,rv,hu=>by
  unfold Rep at hx;subst hx;cases d' with
  |tup ds'=>unfold Rep at hy;obtain⟨b,ys,rfl,hq',hr'⟩:=hy;cases rv;cases ru;obtain⟨its',ry,p',_⟩:=I.tuple hq';exact nJ c (show s.heap.IsTuple b its'.toArray from p') (by omega)
  |lst ds'=>unfold Rep at hy;obtain⟨b,ys,rfl,hq',hr'⟩:=hy;cases rv;cases ru;obtain⟨its',ry,p',_⟩:=I.list hq';exact nW c p'.isList (by omega)
  |_=>unfold Rep at hy;subst hy;exact zz ru rv rfl rfl
 |.int c,d',x,y,u,v,A,hx,hy,ru,rv,hu=>by
  unfold Rep at hx;subst hx;cases d' with
  |tup ds'=>unfold Rep at hy;obtain⟨b,ys,rfl,hq',hr'⟩:=hy;cases rv;obtain⟨t,rfl⟩:=ru;obtain⟨its',ry,p',_⟩:=I.tuple hq';exact nX c t (show s.heap.IsTuple b its'.toArray from p') (by omega)
  |lst ds'=>unfold Rep at hy;obtain⟨b,ys,rfl,hq',hr'⟩:=hy;cases rv;obtain⟨t,rfl⟩:=ru;obtain⟨its',ry,p',_⟩:=I.list hq';exact og c t p'.isList (by omega)
  |_=>unfold Rep at hy;subst hy;exact zz ru rv rfl rfl
 |.str c,d',x,y,u,v,A,hx,hy,ru,rv,hu=>by
  unfold Rep at hx;subst hx;cases d' with
  |tup ds'=>unfold Rep at hy;obtain⟨b,ys,rfl,hq',hr'⟩:=hy;cases rv;obtain⟨t,rfl⟩:=ru;obtain⟨its',ry,p',_⟩:=I.tuple hq';exact nY c t (show s.heap.IsTuple b its'.toArray from p') (by omega)
  |lst ds'=>unfold Rep at hy;obtain⟨b,ys,rfl,hq',hr'⟩:=hy;cases rv;obtain⟨t,rfl⟩:=ru;obtain⟨its',ry,p',_⟩:=I.list hq';exact oh c t p'.isList (by omega)
  |_=>unfold Rep at hy;subst hy;exact zz ru rv rfl rfl
theorem uX(I:Inv X pins σ H s):∀(ds ds':List Dq) (xs ys:List V) (us vs:List aa) (A:aw),oN X.K H ds xs->oN X.K H ds' ys->Vals xs us->Vals ys vs->A.units+qr ds+qr ds'<cLine->
  ∀(j:Nat) (h1:j<us.length) (h2:j<vs.length),fR A s us[j] vs[j] (eAt ds ds' j)
 |[],ds',xs,ys,us,vs,A,hx,hy,ru,rv,hu,j,h1,h2=>by
  have:=oM hx;have:=ru.length;simp only[bg]at *
  omega
 |d::ds,[],xs,ys,us,vs,A,hx,hy,ru,rv,hu,j,h1,h2=>by
  have:=oM hy;have:=rv.length;simp only[bg]at *
  omega
 |d::ds,d'::ds',xs,ys,us,vs,A,hx,hy,ru,rv,hu,j,h1,h2=>by
  unfold oN at hx hy;obtain⟨x,xr,rfl,hx1,hx2⟩:=hx;obtain⟨y,yr,rfl,hy1,hy2⟩:=hy;have e1:qr (d::ds)=max (dpt d) (qr ds):=by rw[qr]
  have e2:qr (d'::ds')=max (dpt d') (qr ds'):=by rw[qr]
  cases ru with
  |cons r1 r2=>
   cases rv with
   |cons q1 q2=>
    cases j with
    |zero=>exact Hf I d d' x y _ _ A hx1 hy1 r1 q1 (by omega)
    |succ j=>exact uX I ds ds' xr yr _ _ A hx2 hy2 r2 q2 (by omega) j (by simpa using h1) (by simpa using h2)
end
def Hg:Dq->Dq->Bool
 |.tup _,.tup _=>true
 |.lst _,.lst _=>true
 |_,_=>false
def DJ(K:ak)(neg:Bool):R2:=λx y H Q=>∃d d',Rep K H d x/\Rep K H d' y/\Hg d d'=true/\dpt d<=20/\dpt d'<=20/\Q (.bl (if neg then !eqD d d' else eqD d d')) H
theorem Np(hu:X.A.units+64<cLine):OpR X (aS .Eq) (DJ X.K false):=by
 intro pins s σ H x y u v Q I ru rv h;obtain⟨d,d',hx,hy,hd,h1,h2,q⟩:=h;cases d with
 |tup ds=>
  cases d' with
  |tup ds'=>
   have hd1:dpt (.tup ds)=qr ds+1:=by rw[dpt]
   have hd2:dpt (.tup ds')=qr ds'+1:=by rw[dpt]
   unfold Rep at hx hy;obtain⟨a,xs,rfl,hq,hr⟩:=hx;obtain⟨b,ys,rfl,hq',hr'⟩:=hy;cases ru;cases rv;obtain⟨its,rx,p,_⟩:=I.tuple hq;obtain⟨its',ry,p',_⟩:=I.tuple hq';refine SeqAt.eq_tupleAt (e:=eAt ds ds') (show s.heap.IsTuple a its.toArray from p) (show s.heap.IsTuple b its'.toArray from p') (by omega) (λj h1 h2=>?_) ?_
   ·have z:=uX I ds ds' xs ys its its' X.A.in1 hr hr' rx ry (by show X.A.units+1+qr ds+qr ds'<cLine;omega) j (by simpa using h1) (by simpa using h2);simpa using z
   ·rw[uW (by rw[oM hr,rx.length];simp) (by rw[oM hr',ry.length];simp)];unfold eqD at q;exact pD I q rfl
  |_=>exact nomatch hd
 |lst ds=>
  cases d' with
  |lst ds'=>
   have hd1:dpt (.lst ds)=qr ds+1:=by rw[dpt]
   have hd2:dpt (.lst ds')=qr ds'+1:=by rw[dpt]
   unfold Rep at hx hy;obtain⟨a,xs,rfl,hq,hr⟩:=hx;obtain⟨b,ys,rfl,hq',hr'⟩:=hy;cases ru;cases rv;obtain⟨its,rx,p,_⟩:=I.list hq;obtain⟨its',ry,p',_⟩:=I.list hq';by_cases hl:its.length=its'.length
   ·refine SeqAt.eq_listAt (e:=eAt ds ds') p.isList p'.isList (by simpa using hl) (by omega) (λj h1 h2=>?_) ?_
    ·have z:=uX I ds ds' xs ys its its' X.A.in1 hr hr' rx ry (by show X.A.units+1+qr ds+qr ds'<cLine;omega) j (by simpa using h1) (by simpa using h2);simpa using z
    ·rw[vM (by rw[oM hr,rx.length];simp) (by rw[oM hr',ry.length,<- hl];simp)];unfold eqD at q;exact pD I q rfl
   ·refine jO p.isList p'.isList (by simpa using hl) (by omega) ?_;have e:uV ds ds'=false:=zJ (by rw[oM hr,oM hr',rx.length,ry.length];exact hl);unfold eqD at q;rw[e]at q;exact pD I q rfl
  |_=>exact nomatch hd
 |_=>exact nomatch hd
theorem Nq(hu:X.A.units+64<cLine):OpR X (aS .NotEq) (DJ X.K true):=by
 intro pins s σ H x y u v Q I ru rv h;obtain⟨d,d',hx,hy,hd,h1,h2,q⟩:=h;cases d with
 |tup ds=>
  cases d' with
  |tup ds'=>
   have hd1:dpt (.tup ds)=qr ds+1:=by rw[dpt]
   have hd2:dpt (.tup ds')=qr ds'+1:=by rw[dpt]
   unfold Rep at hx hy;obtain⟨a,xs,rfl,hq,hr⟩:=hx;obtain⟨b,ys,rfl,hq',hr'⟩:=hy;cases ru;cases rv;obtain⟨its,rx,p,_⟩:=I.tuple hq;obtain⟨its',ry,p',_⟩:=I.tuple hq';have w:=oi (A:=X.A) (e:=eAt ds ds') (show s.heap.IsTuple a its.toArray from p) (show s.heap.IsTuple b its'.toArray from p') (by omega) (λj h1 h2=>by
    have z:=uX I ds ds' xs ys its its' X.A.in1 hr hr' rx ry (by show X.A.units+1+qr ds+qr ds'<cLine;omega) j (by simpa using h1) (by simpa using h2);simpa using z)
   rw[uW (by rw[oM hr,rx.length];simp) (by rw[oM hr',ry.length];simp)]at w;unfold eqD at q;exact w X.prog X.w X.xe _ (pD I q rfl)
  |_=>exact nomatch hd
 |lst ds=>
  cases d' with
  |lst ds'=>
   have hd1:dpt (.lst ds)=qr ds+1:=by rw[dpt]
   have hd2:dpt (.lst ds')=qr ds'+1:=by rw[dpt]
   unfold Rep at hx hy;obtain⟨a,xs,rfl,hq,hr⟩:=hx;obtain⟨b,ys,rfl,hq',hr'⟩:=hy;cases ru;cases rv;obtain⟨its,rx,p,_⟩:=I.list hq;obtain⟨its',ry,p',_⟩:=I.list hq';by_cases hl:its.length=its'.length
   ·have w:=oq (A:=X.A) (e:=eAt ds ds') p.isList p'.isList (by simpa using hl) (by omega) (λj h1 h2=>by
     have z:=uX I ds ds' xs ys its its' X.A.in1 hr hr' rx ry (by show X.A.units+1+qr ds+qr ds'<cLine;omega) j (by simpa using h1) (by simpa using h2);simpa using z)
    rw[vM (by rw[oM hr,rx.length];simp) (by rw[oM hr',ry.length,<- hl];simp)]at w;unfold eqD at q;exact w X.prog X.w X.xe _ (pD I q rfl)
   ·have e:uV ds ds'=false:=zJ (by rw[oM hr,oM hr',rx.length,ry.length];exact hl);unfold eqD at q;rw[e]at q;exact mM p.isList p'.isList (by simpa using hl) (by omega) X.prog X.w X.xe _ (pD I q rfl)
  |_=>exact nomatch hd
 |_=>exact nomatch hd
end
inductive tT:List Expr->List V->Prop
 |nil:tT [] []
 |cons {x:Str} {j:Nat} {pos:Pos} {es:List Expr} {vs:List V} (h:tT es vs):tT (.Constant (.str x) j pos::es) (.str x::vs)
theorem rj{n:Nat}(h:n<=1000):n<=aB:=gG (wq h)
theorem oW.new{p:Addr}{H H1:Hp}(x:oW H H1)(hp:H1 p=none)(o:HO):oW H (upd H1 p o):=λb u e=>by have z:=x b u e;rw[o3 (ql z hp)];exact z
structure FQ(K:ak)(x qual:Str)(st:Stmt)(f:Addr)(fd:bA)(T:Addr):Prop where
 ex:∃(oc:aa) (od:Option Addr) (kV doc pm:aa) (an:Option Addr) (cdv ct:aa) (osl:Array (Option aa)),
  fd=dq x qual (rK st) (pA st) (o4 st) (.ref T) kV doc pm an cdv ct/\K.lookup f=some ⟨oc,od,.func fd,osl⟩/\eR K cdv qual=true
 kp:cH K (.ref f)=true
variable{qual:Str}{f T:Addr}{fd:bA}{ps:List Str}
section
variable{P:ar}{w:aq}{K:ak}{mg:Str->Option aa}{base:Heap}
theorem FQ.ok{st:Stmt}{k:Nat}{sp:Sp}(F:FQ K x qual st f fd T)(S:qt N ps (o4 st))(len:∀vs H Q E,sp vs H Q E->vs.length=ps.length)
  (hbody:∀(cdv:aa) (A:aw) (outer:List Env) (s:ae) (H:Hp) (vs:List V) (Q:VK) (E:XK),qg k (A.deeper (envOfC qual (o4 st) s.heap.objs.size f cdv))->sp vs H Q E->
   ∃t,PSs (By CX0 P w K mg base N qual (o4 st) f cdv A outer s H E).nox (pA st) t/\t { nx:=λ_ H'=>Q .non H',rt:=Q } (L2.start N vs) H):rJ P w K mg base CX0 (k+1) f fd ps sp:=by
 obtain⟨oc,od,kV,doc,pm,an,cdv,ct,osl,rfl,lk,hcd⟩:=F.ex;refine Cq lk hcd S len λA outer s H vs Q E hr hsp=>?_;obtain⟨t,h,q⟩:=hbody cdv A outer s H vs Q E hr hsp;exact⟨t,h.nox,q⟩
end
theorem FQ.binds{K:ak}{st:Stmt}{ds:List aa}{o:Obj}{items:Array aa}{n:Nat}(F:FQ K x qual st f fd T)(ho:K.lookup T=some o)(hs:o.data=.seq items n)
  (h:∀(kV doc pm:aa) (an:Option Addr) (cdv ct:aa) (us:List aa),us.length=ps.length - ds.length->∃k,bindArgs (dq x qual (rK st) (pA st) (o4 st) (.ref T) kV doc pm an cdv ct) ⟨us,[]⟩=seqItems? (.ref T)>>=k/\k (some items)=pure (ps.zip (us++ds))):Binds K fd ps ds:=by
 obtain⟨oc,od,kV,doc,pm,an,cdv,ct,osl,rfl,lk,hcd⟩:=F.ex;intro s us KX hl;obtain⟨k,h1,h2⟩:=h kV doc pm an cdv ct us (by rw[au]at hl;omega);exact BindsTo.of_defaults (k:=k) rfl (KX _ _ ho) hs h1 h2
section
variable{X:Cx}(K:ak)
theorem CA(hl:PE X l tl)(hK:X.K=K:=by rfl):PI X tg l (GE K tl):=by subst hK;exact JI hl
theorem J8(hl:PE X l tl)(hK:X.K=K:=by rfl):PI X tg l (MU K tl):=by subst hK;exact MV hl
theorem J9{es:List Expr}{k:Nat}{t:TGs}{n:Nat}(hc:X.calm=true)(h:PGs X es t)(hn:(cg es X.env).length=n:=by rfl)(hst:(cg es X.env).findIdx? (·.1)=none:=by rfl)(hK:X.K=K:=by rfl):PG X (.Tuple es k pos) (MO K n t):=by subst hK;exact MP hc h hn hst
variable{o e:Expr}{es:List Expr}{to:TE}{t:TA}{name:Str}{apos cpos:Pos}{T id:String}{r:V->List V->Hp->VK->Prop}
theorem Hh(pa:jw T)(slot:Slot T name id)(hty:typeOf (.builtin id)=pure (.type "method_descriptor"))(hm:MtR X id r)(ho:PE X o to)(ha:PA X (e::es) t)
  (hbase:dY o name X.env (eval o X.env)=eval o X.env:=by rfl)
  (hfew:((aZ cpos (az (e::es) X.env)).all (λx=>!x.1)&&(backToKw cpos (dj [] X.env)).all (λx=>x.1.isSome)
   && decide ((e::es).length+([]:List eU).length+(if ([]:List eU).isEmpty then 0 else 1)<30))=true:=by rfl)
  (hline:(apos.endLine==cpos.line)=true:=by rfl) (hs:az (e::es) X.env=(false,eval e X.env)::az es X.env:=by rfl) (hplain:(aZ cpos (az es X.env)).any (·.1)=false:=by rfl) (hK:X.K=K:=by rfl):
  PE X (.Call (.Attribute o name apos) (e::es) [] cpos) (tBM K T r to t):=by subst hK;exact QJ pa slot hty hm ho ha hbase hfew hline hs hplain
end
end L3
namespace L2
open PySem PySem.Spec PyProof.Rows
variable{a:Addr}
section
variable{X:Cx}{pins:List (Addr×Obj)}{σ:St}{H:Hp}{s:ae}
theorem uD{H:Hp}{c:Addr}{u v:HO}(e:H a=some u)(q:H c=some v)(d:u≠v)(n:HO):upd H a n c=some v:=by rw[o3 (λz=>by subst z;rw[e]at q;exact d (bW q))];exact q
theorem Inv.freeze{kvs:List (Key×V)}(I:Inv X pins σ H s)(e:H a=some (.dK kvs)):∃o,Inv X pins σ (upd H a (.frz o (.dK kvs))) s:=by
 obtain⟨z,y,vs,r,ob,es,ep,e1,c⟩:=(show p9 X.prog X.w H s.heap a (.dK kvs) from I.hok a _ e);refine⟨ob,?_⟩;have I':=I.step (H':=upd H a (.frz ob (.dK kvs))) (h':=s.heap) (g':=s.gens) (d':=s.drawn) (t':=s.toks) (ch:=[]) (λ_ z=>nomatch z) (λb o _ _ _ q _=>q) (λb o _ _ _ q _=>⟨o.slots,q⟩)
  (λb o _ _ n=>by rw[o3 (λz=>by subst z;rw[e]at n;cases n)];exact n) (λb o _ q=>⟨o,q⟩) (λb xs q=>uD e q (λz=>nomatch z) _) (λb o u q=>uD e q (λz=>nomatch z) _)
  (λb ps q=>⟨#[],by rw[uD e q (λz=>nomatch z) _];simp⟩) (λm q=>q) ?_ I.bare
 ·obtain⟨h,g,d,t,os⟩:=s;exact I'
 ·intro b u q;have st:∀{b:Addr} {u:HO},p9 X.prog X.w H s.heap b u->p9 X.prog X.w (upd H a (.frz ob (.dK kvs))) s.heap b u:=λ{b u} x=>x.stay (λ_ _ _ q=>q) (λc q=>uD e q (λz=>nomatch z) _) λc xs q=>uD e q (λz=>nomatch z) _
  by_cases hb:b=a
  ·subst hb;rw[oZ]at q;cases q;exact⟨e1,st (I.hok b _ e)⟩
  ·rw[o3 hb]at q;exact st (I.hok b u q)
theorem PE.ghost{e:Expr}{t:TE}(h:PE X e t):PE X e (λσ H Q=>t σ H λx H1=>Q x H1\/∃a kvs,H1 a=some (.dK kvs)/\∀o,Q x (upd H1 a (.frz o (.dK kvs)))):=λpins s σ H Q I hq=>
 thn (h pins s σ H _ I hq) λu s1 ⟨x,H1,I1,r1,q1⟩=>by
  rcases q1 with q|⟨a,kvs,e,q⟩
  ·exact⟨x,H1,I1,r1,q⟩
  ·obtain⟨o,I2⟩:=I1.freeze e;exact⟨x,_,I2,r1,q o⟩
end
end L2
namespace L4
open PySem PySem.Spec PyProof.Rows L2 L3
abbrev St:=L2.St
inductive D where
 |non|bl (b:Bool)|int (i:Int)|str (x:Str)
 |tup (ds:List D)|lst (ds:List D)
 |fzl (ds:List D)
 |obj (c:Nat) (ns:List Str) (ds:List D)
 |dic (ks:List Key) (ds:List D)
structure Bg where
 K:ak
 ca:Nat->Addr
mutual
def Rep(G:Bg)(H:Hp):D->V->Prop
 |.non,v=>v=.non
 |.bl b,v=>v=.bl b
 |.int i,v=>v=.int i
 |.str x,v=>v=.str x
 |.tup ds,v=>∃a xs,v=.ref a/\SqT G.K H a xs/\oN G H ds xs
 |.lst ds,v=>∃a xs,v=.ref a/\H a=some (.lst xs)/\oN G H ds xs
 |.fzl ds,v=>∃a xs,v=.ref a/\SqL G.K H a xs/\oN G H ds xs
 |.obj c ns ds,v=>∃a dx xs,v=.ref a/\H a=some (.ins (G.ca c) dx (ns.zip xs))/\ns.length=xs.length/\oN G H ds xs
 |.dic ks ds,v=>∃a o xs,v=.ref a/\H a=some (.frz o (.dK (ks.zip xs)))/\ks.length=xs.length/\oN G H ds xs
def oN(G:Bg)(H:Hp):List D->List V->Prop
 |[],xs=>xs=[]
 |d::ds,xs=>∃v r,xs=v::r/\Rep G H d v/\oN G H ds r
end
variable{H':Hp}{a:Addr}{xs:List V}
theorem SqT.mono{K:ak}{H:Hp}(e:oW H H')(h:SqT K H a xs):SqT K H' a xs:=by
 rcases h with (h|⟨o,h⟩)|h
 ·exact .inl (.inl (e _ _ h))
 ·exact .inl (.inr ⟨o,e _ _ h⟩)
 ·exact .inr h
mutual
theorem Rep.mono{G:Bg}{H H':Hp}(e:oW H H'):∀(d:D) (v:V),Rep G H d v->Rep G H' d v
 |.non,v,h=>by unfold Rep at h ⊢;exact h
 |.bl b,v,h=>by unfold Rep at h ⊢;exact h
 |.int i,v,h=>by unfold Rep at h ⊢;exact h
 |.str x,v,h=>by unfold Rep at h ⊢;exact h
 |.tup ds,v,h=>by unfold Rep at h ⊢;obtain⟨a,xs,rfl,h1,h2⟩:=h;exact⟨a,xs,rfl,SqT.mono e h1,oN.mono e ds xs h2⟩
 |.lst ds,v,h=>by unfold Rep at h ⊢;obtain⟨a,xs,rfl,h1,h2⟩:=h;exact⟨a,xs,rfl,e _ _ h1,oN.mono e ds xs h2⟩
 |.fzl ds,v,h=>by unfold Rep at h ⊢;obtain⟨a,xs,rfl,h1,h2⟩:=h;exact⟨a,xs,rfl,e.seq h1,oN.mono e ds xs h2⟩
 |.obj c ns ds,v,h=>by unfold Rep at h ⊢;obtain⟨a,dx,xs,rfl,h1,h2,h3⟩:=h;exact⟨a,dx,xs,rfl,e _ _ h1,h2,oN.mono e ds xs h3⟩
 |.dic ks ds,v,h=>by unfold Rep at h ⊢;obtain⟨a,o,xs,rfl,h1,h2,h3⟩:=h;exact⟨a,o,xs,rfl,e _ _ h1,h2,oN.mono e ds xs h3⟩
theorem oN.mono{G:Bg}{H H':Hp}(e:oW H H'):∀(ds:List D) (xs:List V),oN G H ds xs->oN G H' ds xs
 |[],xs,h=>by unfold oN at h ⊢;exact h
 |d::ds,xs,h=>by unfold oN at h ⊢;obtain⟨v,r,rfl,h1,h2⟩:=h;exact⟨v,r,rfl,Rep.mono e d v h1,oN.mono e ds r h2⟩
end
variable{ds:List D}
section
variable{G:Bg}{H:Hp}
theorem pB:oN G H [] []:=by unfold oN;rfl
theorem pI{d:D}{v:V}(h:Rep G H d v)(r:oN G H ds xs):oN G H (d::ds) (v::xs):=by unfold oN;exact⟨v,xs,rfl,h,r⟩
theorem oM:∀{ds:List D} {xs:List V},oN G H ds xs->ds.length=xs.length
 |[],xs,h=>by unfold oN at h;subst h;rfl
 |d::ds,xs,h=>by unfold oN at h;obtain⟨v,r,rfl,_,h2⟩:=h;rw[aA,aA,oM h2]
theorem qh:∀{ds es:List D} {xs ys:List V},oN G H ds xs->oN G H es ys->oN G H (ds++es) (xs++ys)
 |[],es,xs,ys,h,h'=>by unfold oN at h;subst h;exact h'
 |d::ds,es,xs,ys,h,h'=>by unfold oN at h;obtain⟨v,r,rfl,h1,h2⟩:=h;exact pI h1 (qh h2 h')
theorem sA:∀{ds:List D} {xs:List V} {i:Nat} {d:D},oN G H ds xs->ds[i]?=some d->∃v,xs[i]?=some v/\Rep G H d v
 |[],xs,i,d,h,e=>by simp at e
 |d'::ds,xs,i,d,h,e=>by
  unfold oN at h;obtain⟨v,r,rfl,h1,h2⟩:=h;cases i with
  |zero=>simp at e;subst e;exact⟨v,rfl,h1⟩
  |succ i=>simpa using sA (i:=i) (d:=d) h2 (by simpa using e)
theorem CB:∀{ds:List D} {xs:List V} (i:Nat) {d:D} {v:V},oN G H ds xs->Rep G H d v->oN G H (ds.set i d) (xs.set i v)
 |[],xs,i,d,v,h,e=>by unfold oN at h;subst h;exact pB
 |d'::ds,xs,i,d,v,h,e=>by
  unfold oN at h;obtain⟨v',r,rfl,h1,h2⟩:=h;cases i with
  |zero=>exact pI e h2
  |succ i=>exact pI h1 (CB i h2 e)
theorem AX:∀{ds:List D} {xs:List V} (n:Nat),oN G H ds xs->oN G H (ds.drop n) (xs.drop n)
 |ds,xs,0,h=>h
 |[],xs,n+1,h=>by unfold oN at h;subst h;exact pB
 |d::ds,xs,n+1,h=>by unfold oN at h;obtain⟨v,r,rfl,h1,h2⟩:=h;exact AX n h2
theorem AY:∀{ds:List D} {xs:List V} (n:Nat),oN G H ds xs->oN G H (ds.take n) (xs.take n)
 |ds,xs,0,h=>pB
 |[],xs,n+1,h=>by unfold oN at h;subst h;exact pB
 |d::ds,xs,n+1,h=>by unfold oN at h;obtain⟨v,r,rfl,h1,h2⟩:=h;exact pI h1 (AY n h2)
theorem uY(h:SqT G.K H a xs)(r:oN G H ds xs):Rep G H (.tup ds) (.ref a):=by unfold Rep;exact⟨a,xs,rfl,h,r⟩
theorem uZ(h:H a=some (.lst xs))(r:oN G H ds xs):Rep G H (.lst ds) (.ref a):=by unfold Rep;exact⟨a,xs,rfl,h,r⟩
theorem qo(i:Int):Rep G H (.int i) (.int i):=by unfold Rep;rfl
theorem qp(i:Bool):Rep G H (.bl i) (.bl i):=by unfold Rep;rfl
theorem wt(i:Str):Rep G H (.str i) (.str i):=by unfold Rep;rfl
theorem xB:Rep G H .non .non:=by unfold Rep;rfl
end
inductive Sl where
 |un
 |im (d:D)
 |ls (ds:List D)
 |pm (ds:List D)
 |dk (ks:List Key) (ds:List D)
 |ob (c:Nat) (ns:List Str) (ds:List D)
def Sl.own:Sl->Bool
 |.ls _=>true
 |.pm _=>true
 |.dk _ _=>true
 |.ob _ _ _=>true
 |_=>false
structure Fr where
 B0:Hp
 B:Hp
 A:List Addr
def AI(G:Bg)(F:Fr)(H0 H:Hp)(o:Option V):Sl->Prop
 |.un=>True
 |.im d=>∃v,o=some v/\Rep G H0 d v
 |.ls ds=>∃a xs,o=some (.ref a)/\H a=some (.lst xs)/\H0 a=none/\F.B a=none/\oN G H0 ds xs
 |.pm ds=>∃a xs,o=some (.ref a)/\H a=some (.lst xs)/\H0 a=none/\a∈F.A/\oN G H0 ds xs
 |.dk ks ds=>∃a xs,o=some (.ref a)/\H a=some (.dK (ks.zip xs))/\H0 a=none/\F.B a=none/\ks.length=xs.length/\oN G H0 ds xs
 |.ob c ns ds=>∃a dx xs,o=some (.ref a)/\H a=some (.ins (G.ca c) dx (ns.zip xs))/\H0 a=none/\a∈F.A/\ns.length=xs.length/\oN G H0 ds xs
structure o8(G:Bg)(F:Fr)(σ:St)(ρ:List Sl)(H0 H:Hp):Prop where
 sub:oW H0 H
 g0:oW F.B0 H0
 keep:∀b o,F.B b=some o->b∉F.A->H b=some o
 fr:∀b o,H0 b=some o->F.B0 b=some o\/F.B b=none
 am:∀a∈F.A,∃o,H a=some o
 len:σ.length=ρ.length
 sl:∀(i:Nat) (s:Sl),ρ[i]?=some s->AI G F H0 H (σ[i]?).join s
 ap:∀(i j:Nat) (s t:Sl) (a:Addr),i≠j->ρ[i]?=some s->ρ[j]?=some t->s.own=true->t.own=true->(σ[i]?).join=some (.ref a)->(σ[j]?).join=some (.ref a)->False
variable{G:Bg}{F:Fr}{H0:Hp}
theorem AI.at{H:Hp}{o:Option V}{s:Sl}(h:AI G F H0 H o s)(e:s.own=true):∃a u,o=some (.ref a)/\H a=some u/\H0 a=none/\(F.B a=none\/a∈F.A):=by
 cases s with
 |un=>cases e
 |im d=>cases e
 |ls ds=>obtain⟨a,xs,h1,h2,h3,h4,_⟩:=h;exact⟨a,_,h1,h2,h3,.inl h4⟩
 |pm ds=>obtain⟨a,xs,h1,h2,h3,h4,_⟩:=h;exact⟨a,_,h1,h2,h3,.inr h4⟩
 |dk ks ds=>obtain⟨a,xs,h1,h2,h3,h4,_⟩:=h;exact⟨a,_,h1,h2,h3,.inl h4⟩
 |ob c ns ds=>obtain⟨a,dx,xs,h1,h2,h3,h4,_⟩:=h;exact⟨a,_,h1,h2,h3,.inr h4⟩
variable{H0':Hp}
theorem AI.grow{H:Hp}{o:Option V}{s:Sl}(h:AI G F H0 H o s)(h0:oW H0 H0')(hk:∀a u,o=some (.ref a)->s.own=true->H a=some u->H' a=some u)
  (hn:∀a u,o=some (.ref a)->s.own=true->H a=some u->H0 a=none->H0' a=none):AI G F H0' H' o s:=by
 cases s with
 |un=>trivial
 |im d=>obtain⟨v,h1,h2⟩:=h;exact⟨v,h1,Rep.mono h0 _ _ h2⟩
 |ls ds=>obtain⟨a,xs,h1,h2,h3,h4,h5⟩:=h;exact⟨a,xs,h1,hk _ _ h1 rfl h2,hn _ _ h1 rfl h2 h3,h4,oN.mono h0 _ _ h5⟩
 |pm ds=>obtain⟨a,xs,h1,h2,h3,h4,h5⟩:=h;exact⟨a,xs,h1,hk _ _ h1 rfl h2,hn _ _ h1 rfl h2 h3,h4,oN.mono h0 _ _ h5⟩
 |dk ks ds=>obtain⟨a,xs,h1,h2,h3,h4,h5,h6⟩:=h;exact⟨a,xs,h1,hk _ _ h1 rfl h2,hn _ _ h1 rfl h2 h3,h4,h5,oN.mono h0 _ _ h6⟩
 |ob c ns ds=>obtain⟨a,dx,xs,h1,h2,h3,h4,h5,h6⟩:=h;exact⟨a,dx,xs,h1,hk _ _ h1 rfl h2,hn _ _ h1 rfl h2 h3,h4,h5,oN.mono h0 _ _ h6⟩
variable{p:Addr}{i j:Nat}
section
variable{G:Bg}{F:Fr}{σ:St}{ρ:List Sl}{H0 H H0' H':Hp}
theorem o8.bNone(R:o8 G F σ ρ H0 H){b:Addr}(h:H b=none):F.B b=none:=by
 cases e:F.B b with
 |none=>rfl
 |some o=>
  by_cases ha:b∈F.A
  ·obtain⟨xs,q⟩:=R.am b ha;rw[q]at h;cases h
  ·have q:=R.keep b o e ha;rw[q]at h;cases h
theorem o8.grow(R:o8 G F σ ρ H0 H)(hs:oW H H')(h0:oW H0 H0')(sub':oW H0' H')(hf:∀b o,H0' b=some o->H0 b=some o\/H b=none):o8 G F σ ρ H0' H' where
 sub:=sub'
 g0:=R.g0.trans h0
 keep:=λb o e n=>hs _ _ (R.keep b o e n)
 fr:=λb o e=>by
  rcases hf b o e with q|q
  ·exact R.fr b o q
  ·exact .inr (R.bNone q)
 am:=λa ha=>let ⟨xs,q⟩:=R.am a ha;⟨xs,hs _ _ q⟩
 len:=R.len
 sl:=λi s e=>(R.sl i s e).grow h0 (λa u _ _ q=>hs _ _ q) λa u _ _ q q0=>by
  cases z:H0' a with
  |none=>rfl
  |some o=>
   rcases hf a o z with y|y
   ·rw[y]at q0;cases q0
   ·rw[y]at q;cases q
 ap:=R.ap
theorem o6{H:Hp}(hp:H p=none)(o:HO):oW H (upd H p o):=oW.new (oW.refl H) hp o
theorem o8.h0none(R:o8 G F σ ρ H0 H)(hp:H p=none):H0 p=none:=by
 cases e:H0 p with
 |none=>rfl
 |some o=>have:=R.sub _ _ e;rw[this]at hp;cases hp
theorem Hk{H0 H:Hp}(s:oW H0 H)(p:Addr)(o:HO):oW (upd H0 p o) (upd H p o):=λb u e=>by
 by_cases hb:b=p
 ·subst hb;rw[oZ]at e ⊢;exact e
 ·rw[o3 hb]at e ⊢;exact s _ _ e
theorem o8.newIm(R:o8 G F σ ρ H0 H)(hp:H p=none)(o:HO):o8 G F σ ρ (upd H0 p o) (upd H p o):=
 R.grow (o6 hp o) (o6 (R.h0none hp) o) (Hk R.sub p o) λb u e=>by
  by_cases hb:b=p
  ·subst hb;exact .inr hp
  ·rw[o3 hb]at e;exact .inl e
theorem o8.newOwn(R:o8 G F σ ρ H0 H)(hp:H p=none)(o:HO):o8 G F σ ρ H0 (upd H p o):=
 R.grow (o6 hp o) (oW.refl _) (λb u e=>by rw[o3 (ql (R.sub _ _ e) hp)];exact R.sub _ _ e) λb u e=>.inl e
def Apart(σ:St)(ρ:List Sl)(p:Addr):Prop:=∀(i:Nat) (s:Sl),ρ[i]?=some s->s.own=true->(σ[i]?).join≠some (.ref p)
theorem o8.apart(R:o8 G F σ ρ H0 H)(hp:H p=none):Apart σ ρ p:=λi s e so z=>by obtain⟨a,u,h1,h2,_⟩:=(R.sl i s e).at so;rw[z]at h1;cases h1;rw[hp]at h2;cases h2
theorem o8.freeze(R:o8 G F σ ρ H0 H){o:HO}(hp:H p=some o)(h0:H0 p=none)(hb:F.B p=none)(ap:Apart σ ρ p):o8 G F σ ρ (upd H0 p o) H where
 sub:=λb u e=>by
  by_cases hb:b=p
  ·subst hb;rw[oZ]at e;cases e;exact hp
  ·rw[o3 hb]at e;exact R.sub _ _ e
 g0:=R.g0.trans (o6 h0 o)
 keep:=R.keep
 fr:=λb u e=>by
  by_cases hb':b=p
  ·subst hb';exact .inr hb
  ·rw[o3 hb']at e;exact R.fr _ _ e
 am:=R.am
 len:=R.len
 sl:=λi s e=>(R.sl i s e).grow (o6 h0 o) (λa u _ _ q=>q) λa u z so q q0=>by rw[o3 (λy=>ap i s e so (by rw[z,y]))];exact q0
 ap:=R.ap
theorem CC{σ:St}{v:Option V}(hi:i<σ.length):((σ.set i v)[j]?).join=if j=i then v else (σ[j]?).join:=by
 rw[bG];by_cases h:i=j
 ·subst h;simp[hi]
 ·rw[ai h,ai (λz=>h z.symm)]
theorem o8.set(R:o8 G F σ ρ H0 H){v:V}{s:Sl}(hs:AI G F H0 H (some v) s)(ap:s.own=true->∀a,v=.ref a->∀(j:Nat) (t:Sl),j≠i->ρ[j]?=some t->t.own=true->(σ[j]?).join≠some (.ref a)):
  o8 G F (σ.set i (some v)) (ρ.set i s) H0 H where
 sub:=R.sub
 g0:=R.g0
 keep:=R.keep
 fr:=R.fr
 am:=R.am
 len:=by rw[c7,c7,R.len]
 sl:=λj t e=>by
  rw[bG]at e;by_cases h:i=j
  ·subst h;rw[ah rfl]at e;split at e
   ·rename_i hi;cases e;rw[CC (by rw[R.len];exact hi),ah rfl];exact hs
   ·cases e
  ·rw[ai h]at e;have hh:=R.sl j t e;rw[bG,ai h];exact hh
 ap:=λj k t u a hjk ej ek tj tk vj vk=>by
  have gen:∀{m:Nat} {x:Sl},(ρ.set i s)[m]?=some x->m≠i->ρ[m]?=some x/\((σ.set i (some v))[m]?).join=(σ[m]?).join:=λ{m x} e hm=>by rw[bG,ai (λz=>hm z.symm)]at e;exact⟨e,by rw[bG,ai (λz=>hm z.symm)]⟩
  have self:∀{x:Sl},(ρ.set i s)[i]?=some x->x=s/\((σ.set i (some v))[i]?).join=some v:=λ{x} e=>by
   rw[bG,ah rfl]at e;split at e
   ·rename_i hi;cases e;exact⟨rfl,by rw[CC (by rw[R.len];exact hi),ah rfl]⟩
   ·cases e
  by_cases hj:j=i
  ·subst hj;obtain⟨rfl,ev⟩:=self ej;rw[ev]at vj;cases vj;obtain⟨e2,e3⟩:=gen ek (λz=>hjk z.symm);rw[e3]at vk;exact ap tj a rfl k u (λz=>hjk z.symm) e2 tk vk
  ·obtain⟨e2,e3⟩:=gen ej hj;by_cases hk:k=i
   ·subst hk;obtain⟨rfl,ev⟩:=self ek;rw[ev]at vk;cases vk;rw[e3]at vj;exact ap tk a rfl j t hj e2 tj vj
   ·obtain⟨e4,e5⟩:=gen ek hk;rw[e3]at vj;rw[e5]at vk;exact R.ap j k t u a hjk e2 e4 tj tk vj vk
theorem o8.setIm(R:o8 G F σ ρ H0 H)(i:Nat){v:V}{d:D}(h:Rep G H0 d v):o8 G F (σ.set i (some v)) (ρ.set i (.im d)) H0 H:=R.set ⟨v,rfl,h⟩ λz=>by cases z
theorem o8.setLs(R:o8 G F σ ρ H0 H)(i:Nat)(hp:H p=some (.lst xs))(h0:H0 p=none)(hb:F.B p=none)(ap:Apart σ ρ p)(h:oN G H0 ds xs):o8 G F (σ.set i (some (.ref p))) (ρ.set i (.ls ds)) H0 H:=
 R.set ⟨p,xs,rfl,hp,h0,hb,h⟩ λ_ a e j t _ ej tj=>by cases e;exact ap j t ej tj
theorem o8.mut(R:o8 G F σ ρ H0 H){s s':Sl}{o:HO}(hi:ρ[i]?=some s)(so:s.own=true)(ha:(σ[i]?).join=some (.ref a))(ok:∀H',H' a=some o->AI G F H0 H' (some (.ref a)) s')
  (so':s'.own=true):o8 G F σ (ρ.set i s') H0 (upd H a o):=by
 obtain⟨a',u,e1,e2,e3,e4⟩:=(R.sl i s hi).at so;rw[ha]at e1;cases e1;exact {
  sub:=λb w e=>by rw[o3 (λz=>by rw[z,e3]at e;cases e)];exact R.sub _ _ e
  g0:=R.g0
  keep:=λb w e n=>by
   have nb:b≠a:=λz=>by
    subst z;rcases e4 with q|q
    ·rw[q]at e;cases e
    ·exact n q
   rw[o3 nb];exact R.keep b w e n
  fr:=R.fr
  am:=λb hb=>by
   by_cases z:b=a
   ·subst z;exact⟨o,oZ⟩
   ·rw[o3 z];exact R.am b hb
  len:=by rw[c7];exact R.len
  sl:=λj t e=>by
   rw[bG]at e;by_cases h:i=j
   ·subst h;rw[ah rfl]at e;split at e
    ·cases e;rw[ha];exact ok _ oZ
    ·cases e
   ·rw[ai h]at e;refine(R.sl j t e).grow (oW.refl _) (λb w z to q=>?_) λb w _ _ _ q=>q;rw[o3 (λy=>by subst y;exact R.ap j i t s b (λy=>h y.symm) e hi to so z ha)];exact q
  ap:=λj k t u b hjk ej ek tj tk vj vk=>by
   have gen:∀{m:Nat} {x:Sl},(ρ.set i s')[m]?=some x->∃y,ρ[m]?=some y/\(x.own=true->y.own=true):=λ{m x} e=>by
    rw[bG]at e;by_cases h:i=m
    ·subst h;exact⟨s,hi,λ_=>so⟩
    ·rw[ai h]at e;exact⟨x,e,λq=>q⟩
   obtain⟨y,ey,oy⟩:=gen ej;obtain⟨z,ez,oz⟩:=gen ek;exact R.ap j k y z b hjk ey ez (oy tj) (oz tk) vj vk }
end
abbrev FE:=List Sl->Option (D×List Sl)
abbrev FT:=List Sl->Option (Bool×List Sl)
abbrev FA:=List Sl->Option (List D×List Sl)
def tF(G:Bg)(f:FE):TE:=λσ H Q=>∃F ρ H0 d ρ',o8 G F σ ρ H0 H/\f ρ=some (d,ρ')/\∀v H0' H',oW H0 H0'->o8 G F σ ρ' H0' H'->Rep G H0' d v->Q v H'
def tFT(G:Bg)(f:FT):TT:=λσ H Q=>∃F ρ H0 d ρ',o8 G F σ ρ H0 H/\f ρ=some (d,ρ')/\∀H0' H',oW H0 H0'->o8 G F σ ρ' H0' H'->Q d H'
def tFA(G:Bg)(f:FA):TA:=λσ H Q=>∃F ρ H0 ds ρ',o8 G F σ ρ H0 H/\f ρ=some (ds,ρ')/\∀xs H0' H',oW H0 H0'->o8 G F σ ρ' H0' H'->oN G H0' ds xs->Q xs H'
def tFN(G:Bg)(f:FA):TE:=λσ H Q=>∃F ρ H0 ds ρ',o8 G F σ ρ H0 H/\f ρ=some (ds,ρ')/\∀p xs H0' H',oW H0 H0'->o8 G F σ ρ' H0' H'->H' p=some (.lst xs)->H0' p=none->F.B p=none->Apart σ ρ' p->oN G H0' ds xs->Q (.ref p) H'
variable{X:Cx}{e:Expr}
theorem PE.weak{t t':TE}(h:PE X e t)(w:∀σ H Q,t' σ H Q->t σ H Q):PE X e t':=λpins s σ H Q I hq=>h pins s σ H Q I (w _ _ _ hq)
variable{t':TT}
theorem PT.weak{t:TT}(h:PT X e t)(w:∀σ H Q,t' σ H Q->t σ H Q):PT X e t':=λpins s σ H Q I hq=>h pins s σ H Q I (w _ _ _ hq)
theorem PW.weak{t:TT}(h:PW X e t)(w:∀σ H Q,t' σ H Q->t σ H Q):PW X e t':=λwh pins s σ H Q I hq=>h wh pins s σ H Q I (w _ _ _ hq)
theorem PA.weak{e:List Expr}{t t':TA}(h:PA X e t)(w:∀σ H Q,t' σ H Q->t σ H Q):PA X e t':=λpos pins s σ H Q I hq=>h pos pins s σ H Q I (w _ _ _ hq)
noncomputable def cC(d:D):FE:=λρ=>some (d,ρ)
noncomputable def cV(i:Nat):FE:=λρ=>match ρ[i]? with
 |some (.im d)=>some (d,ρ)
 |_=>none
noncomputable def c1(g:D->Option D) (f:FE):FE:=λρ=>match f ρ with
 |some (d,ρ')=>match g d with
  |some x=>some (x,ρ')
  |none=>none
 |none=>none
noncomputable def c2(g:D->D->Option D) (f f':FE):FE:=λρ=>match f ρ with
 |some (x,ρ1)=>match f' ρ1 with
  |some (y,ρ2)=>match g x y with
   |some z=>some (z,ρ2)
   |none=>none
  |none=>none
 |none=>none
variable{f:FE}{ρ ρ':List Sl}{z:D}
theorem ze{g:D->Option D}(h:c1 g f ρ=some (z,ρ')):∃d,f ρ=some (d,ρ')/\g d=some z:=by
 unfold c1 at h;cases e:f ρ with
 |none=>rw[e]at h;cases h
 |some p=>
  obtain⟨d,ρ1⟩:=p;rw[e]at h;cases e2:g d with
  |none=>simp only[e2]at h;cases h
  |some x=>simp only[e2]at h;cases h;exact⟨d,rfl,e2⟩
variable{f':FE}
theorem xC{g:D->D->Option D}(h:c2 g f f' ρ=some (z,ρ')):∃x y ρ1,f ρ=some (x,ρ1)/\f' ρ1=some (y,ρ')/\g x y=some z:=by
 unfold c2 at h;cases e:f ρ with
 |none=>rw[e]at h;cases h
 |some p=>
  obtain⟨x,ρ1⟩:=p;simp only[e]at h;cases e2:f' ρ1 with
  |none=>simp only[e2]at h;cases h
  |some q=>
   obtain⟨y,ρ2⟩:=q;simp only[e2]at h;cases e3:g x y with
   |none=>simp only[e3]at h;cases h
   |some w=>simp only[e3]at h;cases h;exact⟨x,y,ρ1,rfl,e2,e3⟩
variable{b:Expr}{pos:Pos}{op:eB}{es:List Expr}
section
variable{X:Cx}{G:Bg}
theorem Nr{i j pos}:PE X (.Constant (.int i) j pos) (tF G (cC (.int i))):=PE.weak Do λσ H Q h=>by obtain⟨F,ρ,H0,d,ρ',R,e,k⟩:=h;cases e;exact k _ _ _ (oW.refl _) R (qo i)
theorem QO{i j pos}:PE X (.Constant (.bool i) j pos) (tF G (cC (.bl i))):=PE.weak Qi λσ H Q h=>by obtain⟨F,ρ,H0,d,ρ',R,e,k⟩:=h;cases e;exact k _ _ _ (oW.refl _) R (qp i)
theorem Nt{i j pos}:PE X (.Constant (.str i) j pos) (tF G (cC (.str i))):=PE.weak MF λσ H Q h=>by obtain⟨F,ρ,H0,d,ρ',R,e,k⟩:=h;cases e;exact k _ _ _ (oW.refl _) R (wt i)
theorem Nu{j pos}:PE X (.Constant .none j pos) (tF G (cC .non)):=PE.weak ME λσ H Q h=>by obtain⟨F,ρ,H0,d,ρ',R,e,k⟩:=h;cases e;exact k _ _ _ (oW.refl _) R xB
theorem Ka{d:D}(h:cV i ρ=some (d,ρ')):ρ[i]?=some (.im d)/\ρ'=ρ:=by
 unfold cV at h;split at h
 ·rename_i e;cases h;exact⟨e,rfl⟩
 ·cases h
theorem rM{α:Type}{o:Option (Option α)}{v:α}(h:o.join=some v):o=some (some v):=by
 cases o with
 |none=>cases h
 |some u=>cases u with
  |none=>cases h
  |some w=>cases h;rfl
theorem DK(h:PE X e (vH i)):PE X e (tF G (cV i)):=PE.weak h λσ H Q hh=>by obtain⟨F,ρ,H0,d,ρ',R,e,k⟩:=hh;obtain⟨e1,rfl⟩:=Ka e;obtain⟨v,e2,e3⟩:=R.sl i _ e1;exact⟨v,rM e2,k _ _ _ (oW.refl _) R e3⟩
theorem Kb{v:V}{d:D}(h:PE X e (tC v))(r:∀H,Rep G H d v):PE X e (tF G (cC d)):=PE.weak h λσ H Q hh=>by obtain⟨F,ρ,H0,d',ρ',R,e,k⟩:=hh;cases e;exact k _ _ _ (oW.refl _) R (r _)
def OpD(G:Bg)(r:R2)(g:D->D->Option D):Prop:=∀x y z H0 H v u (Q:VK),g x y=some z->oW H0 H->Rep G H0 x v->Rep G H0 y u->(∀w,(∀H0',oW H0 H0'->Rep G H0' z w)->Q w H)->r v u H Q
theorem EB{r:R2}{g:D->D->Option D}(ho:OpD G r g):∀σ H Q,tF G (c2 g f f') σ H Q->tOp r (tF G f) (tF G f') σ H Q:=λσ H Q hh=>by obtain⟨F,ρ,H0,d,ρ',R,e,k⟩:=hh;obtain⟨x,y,ρ1,e1,e2,e3⟩:=xC e;refine⟨F,ρ,H0,x,ρ1,R,e1,λv H1 H1' s1 R1 r1=>⟨F,ρ1,H1,y,ρ',R1,e2,λu H2 H2' s2 R2 r2=>?_⟩⟩;exact ho x y d H2 H2' v u Q e3 R2.sub (Rep.mono s2 _ _ r1) r2 λw hw=>k w H2 H2' (s1.trans s2) R2 (hw _ (oW.refl _))
theorem QP{a:Expr}{op:hE}{r:R2}{g:D->D->Option D}(hr:OpR X (ck op) r)(ho:OpD G r g)(ha:PE X a (tF G f))(hb:PE X b (tF G f')):PE X (.BinOp a op b pos) (tF G (c2 g f f')):=PE.weak (El hr ha hb) (EB ho)
theorem Nv{a:Expr}{r:R2}{g:D->D->Option D}(hr:OpR X (aS op) r)(ho:OpD G r g)(ha:PE X a (tF G f))(hb:PE X b (tF G f'))(hm:cD op b=false):PE X (.Compare a [op] [b] pos) (tF G (c2 g f f')):=PE.weak (JN hr ha hb hm) (EB ho)
theorem QQ{a:Expr}{r:R2}{g:D->D->Option D}(hr:IxR X r)(ho:OpD G r g)(ha:PE X a (tF G f))(hb:PE X b (tF G f'))(hs:Ex b):PE X (.Subscript a b pos) (tF G (c2 g f f')):=PE.weak (QF hr ha hb hs) (EB ho)
def cT(f:FE):FT:=λρ=>match f ρ with
 |some (.bl b,ρ')=>some (b,ρ')
 |_=>none
theorem EC{b:Bool}(h:cT f ρ=some (b,ρ')):f ρ=some (.bl b,ρ'):=by
 unfold cT at h;split at h
 ·rename_i e;cases h;exact e
 ·cases h
theorem zf:∀σ H Q,tFT G (cT f) σ H Q->GN (tF G f) σ H Q:=λσ H Q hh=>by obtain⟨F,ρ,H0,d,ρ',R,e,k⟩:=hh;refine⟨F,ρ,H0,_,ρ',R,EC e,λv H0' H' s R' r=>?_⟩;unfold Rep at r;exact⟨d,r,k _ _ s R'⟩
theorem Kc{a:Expr}{r:R2}{g:D->D->Option D}(hr:OpR X (aS op) r)(ho:OpD G r g)(ha:PE X a (tF G f))(hb:PE X b (tF G f'))(hm:cD op b=false):
  PT X (.Compare a [op] [b] pos) (tFT G (cT (c2 g f f'))):=PT.weak (JO hr ha hb hm) λσ H Q hh=>by
 obtain⟨F,ρ,H0,d,ρ',R,e,k⟩:=zf σ H Q hh;exact EB ho σ H _ ⟨F,ρ,H0,d,ρ',R,e,k⟩
theorem Ke(h:PE X e (tF G f))(he:∀whole,isTrue e X.env whole=(do let v<-whole;standAt e.pos;holding [v] (truthy v)):=by intro _;rfl):PT X e (tFT G (cT f)):=PT.weak (MG h he) λσ H Q hh=>by obtain⟨F,ρ,H0,d,ρ',R,e,k⟩:=hh;refine⟨F,ρ,H0,_,ρ',R,EC e,λv H0' H' s R' r=>?_⟩;unfold Rep at r;exact⟨d,r,k _ _ s R'⟩
def ra(f:FT):FT:=λρ=>match f ρ with
 |some (b,ρ')=>some (!b,ρ')
 |none=>none
def rb(f g:FT):FT:=λρ=>match f ρ with
 |some (true,ρ')=>g ρ'
 |r=>r
def qK(f g:FT):FT:=λρ=>match f ρ with
 |some (false,ρ')=>g ρ'
 |r=>r
theorem Kg{a:Expr}{f:FT}(h:PT X a (tFT G f)):PT X (.UnaryOp .Not a pos) (tFT G (ra f)):=PT.weak (MJ h) λσ H Q hh=>by
 obtain⟨F,ρ,H0,d,ρ',R,e,k⟩:=hh;unfold ra at e;cases e1:f ρ with
 |none=>simp only[e1]at e;cases e
 |some p=>obtain⟨b,ρ1⟩:=p;simp only[e1]at e;cases e;exact⟨F,ρ,H0,b,_,R,e1,λH0' H' s R'=>k _ _ s R'⟩
theorem Nw{f g:FT}:∀σ H Q,tFT G (rb f g) σ H Q->Qj (tFT G f) (tFT G g) σ H Q:=λσ H Q hh=>by
 obtain⟨F,ρ,H0,d,ρ',R,e,k⟩:=hh;unfold rb at e;cases e1:f ρ with
 |none=>simp only[e1]at e;cases e
 |some p=>
  obtain⟨b,ρ1⟩:=p;cases b with
  |true=>simp only[e1]at e;exact⟨F,ρ,H0,true,ρ1,R,e1,λH0' H' s R'=>BL ⟨F,ρ1,H0',d,ρ',R',e,λH2 H2' s2 R2=>k _ _ (s.trans s2) R2⟩⟩
  |false=>simp only[e1]at e;cases e;exact⟨F,ρ,H0,false,_,R,e1,λH0' H' s R'=>BK (k _ _ s R')⟩
theorem QR{f g:FT}:∀σ H Q,tFT G (qK f g) σ H Q->tOr (tFT G f) (tFT G g) σ H Q:=λσ H Q hh=>by
 obtain⟨F,ρ,H0,d,ρ',R,e,k⟩:=hh;unfold qK at e;cases e1:f ρ with
 |none=>simp only[e1]at e;cases e
 |some p=>
  obtain⟨b,ρ1⟩:=p;cases b with
  |false=>simp only[e1]at e;exact⟨F,ρ,H0,false,ρ1,R,e1,λH0' H' s R'=>BK ⟨F,ρ1,H0',d,ρ',R',e,λH2 H2' s2 R2=>k _ _ (s.trans s2) R2⟩⟩
  |true=>simp only[e1]at e;cases e;exact⟨F,ρ,H0,true,_,R,e1,λH0' H' s R'=>BL (k _ _ s R')⟩
theorem Hl{a:Expr}{f:FT}(h:PT X a (tFT G f)):PW X (.BoolOp .And [a] pos) (tFT G f):=JG h
theorem Kh{a:Expr}{f:FT}(h:PT X a (tFT G f)):PW X (.BoolOp .Or [a] pos) (tFT G f):=MH h
theorem Ki{a:Expr}{rest:List Expr}{f g:FT}(ha:PT X a (tFT G f))(hb:PW X (.BoolOp .And (b::rest) pos) (tFT G g)):PW X (.BoolOp .And (a::b::rest) pos) (tFT G (rb f g)):=PW.weak (MI ha hb) Nw
theorem Hm{a:Expr}{rest:List Expr}{f g:FT}(ha:PT X a (tFT G f))(hb:PW X (.BoolOp .Or (b::rest) pos) (tFT G g)):PW X (.BoolOp .Or (a::b::rest) pos) (tFT G (qK f g)):=PW.weak (Qk ha hb) QR
def qu(f g:FE):FE:=λρ=>match f ρ with
 |some (.bl true,ρ')=>g ρ'
 |some (.bl false,ρ')=>some (.bl false,ρ')
 |_=>none
def cOr(f g:FE):FE:=λρ=>match f ρ with
 |some (.bl false,ρ')=>g ρ'
 |some (.bl true,ρ')=>some (.bl true,ρ')
 |_=>none
def BN(f:FE):FE:=λρ=>match f ρ with
 |some (.bl b,ρ')=>some (.bl !b,ρ')
 |_=>none
def cIf(c:FT)(f g:FE):FE:=λρ=>match c ρ with
 |some (true,ρ')=>f ρ'
 |some (false,ρ')=>g ρ'
 |none=>none
theorem Nx{a:Expr}{op}(h:PE X a (tF G f)):PE X (.BoolOp op [a] pos) (tF G f):=MK h
theorem CD:(∃ρ1,f ρ=some (.bl true,ρ1))\/(∃ρ1,f ρ=some (.bl false,ρ1))\/(∀b ρ1,f ρ≠some (.bl b,ρ1)):=by
 by_cases h1:∃ρ1,f ρ=some (.bl true,ρ1)
 ·exact .inl h1
 by_cases h2:∃ρ1,f ρ=some (.bl false,ρ1)
 ·exact .inr (.inl h2)
 refine .inr (.inr λb ρ1 z=>?_);cases b with
 |true=>exact h1 ⟨ρ1,z⟩
 |false=>exact h2 ⟨ρ1,z⟩
theorem FR{g:FE}(h:∀b ρ1,f ρ≠some (.bl b,ρ1)):qu f g ρ=none:=by
 unfold qu;split
 ·rename_i e;exact ao e (h _ _)
 ·rename_i e;exact ao e (h _ _)
 ·rfl
theorem Hn{g:FE}(h:∀b ρ1,f ρ≠some (.bl b,ρ1)):cOr f g ρ=none:=by
 unfold cOr;split
 ·rename_i e;exact ao e (h _ _)
 ·rename_i e;exact ao e (h _ _)
 ·rfl
theorem Ny{a:Expr}{rest:List Expr}{g:FE}(ha:PE X a (tF G f))(hb:PE X (.BoolOp .And (b::rest) pos) (tF G g)):PE X (.BoolOp .And (a::b::rest) pos) (tF G (qu f g)):=PE.weak (ML ha hb) λσ H Q hh=>by
 obtain⟨F,ρ,H0,d,ρ',R,e,k⟩:=hh;rcases CD (f:=f) (ρ:=ρ)with ⟨ρ1,e1⟩|⟨ρ1,e1⟩|e1
 ·have e':g ρ1=some (d,ρ'):=by unfold qu at e;simp only[e1]at e;exact e
  refine⟨F,ρ,H0,_,ρ1,R,e1,λv H1 H1' s R' r=>?_⟩;unfold Rep at r;refine⟨true,r,?_⟩;exact BL ⟨F,ρ1,H1,d,ρ',R',e',λv H2 H2' s2 R2 r2=>k _ _ _ (s.trans s2) R2 r2⟩
 ·have e':some (D.bl false,ρ1)=some (d,ρ'):=by unfold qu at e;simp only[e1]at e;exact e
  cases e';refine⟨F,ρ,H0,_,_,R,e1,λv H1 H1' s R' r=>?_⟩;have r':=r;unfold Rep at r';refine⟨false,r',?_⟩;exact BK (k _ _ _ s R' (qp false))
 ·rw[FR e1]at e;cases e
theorem QS{a:Expr}{rest:List Expr}{g:FE}(ha:PE X a (tF G f))(hb:PE X (.BoolOp .Or (b::rest) pos) (tF G g)):PE X (.BoolOp .Or (a::b::rest) pos) (tF G (cOr f g)):=PE.weak (Qn ha hb) λσ H Q hh=>by
 obtain⟨F,ρ,H0,d,ρ',R,e,k⟩:=hh;rcases CD (f:=f) (ρ:=ρ)with ⟨ρ1,e1⟩|⟨ρ1,e1⟩|e1
 ·have e':some (D.bl true,ρ1)=some (d,ρ'):=by unfold cOr at e;simp only[e1]at e;exact e
  cases e';refine⟨F,ρ,H0,_,_,R,e1,λv H1 H1' s R' r=>?_⟩;unfold Rep at r;refine⟨true,r,?_⟩;exact BL (k _ _ _ s R' (qp true))
 ·have e':g ρ1=some (d,ρ'):=by unfold cOr at e;simp only[e1]at e;exact e
  refine⟨F,ρ,H0,_,ρ1,R,e1,λv H1 H1' s R' r=>?_⟩;unfold Rep at r;refine⟨false,r,?_⟩;exact BK ⟨F,ρ1,H1,d,ρ',R',e',λv H2 H2' s2 R2 r2=>k _ _ _ (s.trans s2) R2 r2⟩
 ·rw[Hn e1]at e;cases e
theorem NA{a:Expr}(ha:PE X a (tF G f)):PE X (.UnaryOp .Not a pos) (tF G (BN f)):=PE.weak (MM ha) λσ H Q hh=>by
 obtain⟨F,ρ,H0,d,ρ',R,e,k⟩:=hh;unfold BN at e;split at e
 ·rename_i b ρ1 e1;cases e;refine⟨F,ρ,H0,_,_,R,e1,λv H1 H1' s R' r=>?_⟩;unfold Rep at r;exact⟨b,r,k _ _ _ s R' (qp _)⟩
 ·cases e
theorem QT{c a:Expr}{h:FT}{g:FE}(hc:PT X c (tFT G h))(ha:PE X a (tF G f))(hb:PE X b (tF G g)):PE X (.IfExp c a b pos) (tF G (cIf h f g)):=PE.weak (Gy hc ha hb) λσ H Q hh=>by
 obtain⟨F,ρ,H0,d,ρ',R,e,k⟩:=hh;unfold cIf at e;cases e1:h ρ with
 |none=>simp only[e1]at e;cases e
 |some p=>
  obtain⟨b,ρ1⟩:=p;refine⟨F,ρ,H0,b,ρ1,R,e1,λH1 H1' s R'=>?_⟩;cases b with
  |true=>simp only[e1]at e;exact BL ⟨F,ρ1,H1,d,ρ',R',e,λv H2 H2' s2 R2 r2=>k _ _ _ (s.trans s2) R2 r2⟩
  |false=>simp only[e1]at e;exact BK ⟨F,ρ1,H1,d,ρ',R',e,λv H2 H2' s2 R2 r2=>k _ _ _ (s.trans s2) R2 r2⟩
noncomputable def pC:FA:=λρ=>some ([],ρ)
noncomputable def aCons(f:FE) (g:FA):FA:=λρ=>match f ρ with
 |some (d,ρ1)=>match g ρ1 with
  |some (ds,ρ2)=>some (d::ds,ρ2)
  |none=>none
 |none=>none
theorem DL{g:FA}(h:aCons f g ρ=some (ds,ρ')):∃d r ρ1,f ρ=some (d,ρ1)/\g ρ1=some (r,ρ')/\ds=d::r:=by
 unfold aCons at h;cases e:f ρ with
 |none=>rw[e]at h;cases h
 |some p=>
  obtain⟨x,ρ1⟩:=p;simp only[e]at h;cases e2:g ρ1 with
  |none=>simp only[e2]at h;cases h
  |some q=>obtain⟨y,ρ2⟩:=q;simp only[e2]at h;cases h;exact⟨x,y,ρ1,rfl,e2,rfl⟩
theorem tU:PA X [] (tFA G pC):=PA.weak uS λσ H Q hh=>by obtain⟨F,ρ,H0,d,ρ',R,e,k⟩:=hh;cases e;exact k _ _ _ (oW.refl _) R pB
theorem sC{g:FA}(ha:PE X e (tF G f))(hr:PA X es (tFA G g))(hs:az (e::es) X.env=(false,eval e X.env)::az es X.env:=by rfl):PA X (e::es) (tFA G (aCons f g)):=PA.weak (rH ha hr hs) λσ H Q hh=>by obtain⟨F,ρ,H0,d,ρ',R,e,k⟩:=hh;obtain⟨x,r,ρ1,e1,e2,rfl⟩:=DL e;exact⟨F,ρ,H0,x,ρ1,R,e1,λv H1 H1' s R' rv=>⟨F,ρ1,H1,r,ρ',R',e2,λxs H2 H2' s2 R2 rs=>k _ _ _ (s.trans s2) R2 (pI (Rep.mono s2 _ _ rv) rs)⟩⟩
def sU(g:FA):FE:=λρ=>match g ρ with
 |some (ds,ρ')=>if ds.length<=1000 then some (.tup ds,ρ')else none
 |none=>none
def oJ(g:FA):FA:=λρ=>match g ρ with
 |some (ds,ρ')=>if ds.length<=1000 then some (ds,ρ')else none
 |none=>none
theorem NB{x1}{g:FA}(h:PA X es (tFA G g)):PE X (.Tuple es x1 pos) (tF G (sU g)):=PE.weak (M8 h) λσ H Q hh=>by
 obtain⟨F,ρ,H0,d,ρ',R,e,k⟩:=hh;unfold sU at e;cases e1:g ρ with
 |none=>simp only[e1]at e;cases e
 |some p=>
  obtain⟨ds,ρ1⟩:=p;simp only[e1]at e;split at e
  ·rename_i hl;cases e;refine⟨F,ρ,H0,_,_,R,e1,λxs H1 H1' s R' rs=>⟨by rw[<-oM rs];exact rj hl,λp hp=>?_⟩⟩;exact k _ _ _ (s.trans (o6 (R'.h0none hp) _)) (R'.newIm hp _) (uY (SqT.of oZ) (oN.mono (o6 (R'.h0none hp) _) _ _ rs))
  ·cases e
theorem Kj{g:FA}(h:PA X es (tFA G g)):PE X (.List es pos) (tFN G (oJ g)):=PE.weak (GR h) λσ H Q hh=>by
 obtain⟨F,ρ,H0,d,ρ',R,e,k⟩:=hh;unfold oJ at e;cases e1:g ρ with
 |none=>simp only[e1]at e;cases e
 |some p=>
  obtain⟨ds,ρ1⟩:=p;simp only[e1]at e;split at e
  ·rename_i hl;cases e;refine⟨F,ρ,H0,_,_,R,e1,λxs H1 H1' s R' rs=>⟨by rw[<-oM rs];exact rj hl,λp hp=>?_⟩⟩;exact k _ _ _ _ s (R'.newOwn hp _) oZ (R'.h0none hp) (R'.bNone hp) (R'.apart hp) rs
  ·cases e
def cL(g:FA):FE:=λρ=>match g ρ with
 |some (ds,ρ')=>some (.lst ds,ρ')
 |none=>none
theorem Kk{g:FA}{d:D}(h:cL g ρ=some (d,ρ')):∃ds,g ρ=some (ds,ρ')/\d=.lst ds:=by
 unfold cL at h;cases e:g ρ with
 |none=>simp only[e]at h;cases h
 |some p=>obtain⟨ds,ρ1⟩:=p;simp only[e]at h;cases h;exact⟨ds,rfl,rfl⟩
theorem QU{g:FA}:∀σ H Q,tF G (cL g) σ H Q->tFN G g σ H Q:=λσ H Q hh=>by obtain⟨F,ρ,H0,d,ρ',R,e,k⟩:=hh;obtain⟨ds,e1,rfl⟩:=Kk e;refine⟨F,ρ,H0,ds,ρ',R,e1,λp xs H1 H1' s R' hp h0 hb ap rs=>?_⟩;exact k _ _ _ (s.trans (o6 h0 _)) (R'.freeze hp h0 hb ap) (uZ oZ (oN.mono (o6 h0 _) _ _ rs))
theorem NC{g:FA}(h:PE X e (tFN G g)):PE X e (tF G (cL g)):=PE.weak h QU
end
inductive Out where
 |nx (ρ:List Sl)|bk (ρ:List Sl)|ct (ρ:List Sl)
 |rt (d:D) (ρ:List Sl)
 |rn (ds:List D) (ρ:List Sl)
abbrev FS:=List Sl->Option Out
def ED(G:Bg)(F:Fr)(H0:Hp)(E:Ends):Out->Prop
 |.nx ρ'=>∀σ' H0' H',oW H0 H0'->o8 G F σ' ρ' H0' H'->E.nx σ' H'
 |.bk ρ'=>∀σ' H0' H',oW H0 H0'->o8 G F σ' ρ' H0' H'->E.bk σ' H'
 |.ct ρ'=>∀σ' H0' H',oW H0 H0'->o8 G F σ' ρ' H0' H'->E.ct σ' H'
 |.rt d ρ'=>∀v σ' H0' H',oW H0 H0'->o8 G F σ' ρ' H0' H'->Rep G H0' d v->E.rt v H'
 |.rn ds ρ'=>∀p xs σ' H0' H',oW H0 H0'->o8 G F σ' ρ' H0' H'->H' p=some (.lst xs)->H0' p=none->F.B p=none->Apart σ' ρ' p->oN G H0' ds xs->E.rt (.ref p) H'
def tFS(G:Bg)(f:FS):TS:=λE σ H=>∃F ρ H0 o,o8 G F σ ρ H0 H/\f ρ=some o/\ED G F H0 E o/\(∀p,E.rt p=E.rt p)
variable{H1:Hp}
theorem ED.back{E:Ends}{o:Out}(h:ED G F H0 E o)(s:oW H0 H1):ED G F H1 E o:=by
 cases o with
 |nx ρ=>exact λσ' H0' H' s' R=>h σ' H0' H' (s.trans s') R
 |bk ρ=>exact λσ' H0' H' s' R=>h σ' H0' H' (s.trans s') R
 |ct ρ=>exact λσ' H0' H' s' R=>h σ' H0' H' (s.trans s') R
 |rt d ρ=>exact λv σ' H0' H' s' R=>h v σ' H0' H' (s.trans s') R
 |rn ds ρ=>exact λp xs σ' H0' H' s' R=>h p xs σ' H0' H' (s.trans s') R
theorem PS.weak{e:Stmt}{t t':TS}(h:PS X e t)(w:∀E σ H,t' E σ H->t E σ H):PS X e t':=λpins s σ H D I hq=>h pins s σ H D I (w _ _ _ hq)
theorem PSs.weak{e:List Stmt}{t t':TS}(h:PSs X e t)(w:∀E σ H,t' E σ H->t E σ H):PSs X e t':=λpins s σ H D I hq=>h pins s σ H D I (w _ _ _ hq)
def pf:FS:=λρ=>some (.nx ρ)
noncomputable def oK(f g:FS):FS:=λρ=>match f ρ with
 |some (.nx ρ')=>g ρ'
 |r=>r
variable{σ:St}{tg:Expr}{gs:List D->List Sl->Option (List Sl)}{N:List Str}{vs:List V}{np:Nat}
section
variable{X:Cx}{G:Bg}
theorem Ho{E:Ends}{H:Hp}(h:tFS G pf E σ H):E.nx σ H:=by obtain⟨F,ρ,H0,o,R,e,k,_⟩:=h;cases e;exact k _ _ _ (oW.refl _) R
theorem Kl:PSs X [] (tFS G pf):=PSs.weak Ei λE σ H h=>Ho h
theorem Hr{st:Stmt}{rest:List Stmt}{f g:FS}(h1:PS X st (tFS G f))(h2:PSs X rest (tFS G g)):PSs X (st::rest) (tFS G (oK f g)):=PSs.weak (xn h1 h2) λE σ H h=>by
 obtain⟨F,ρ,H0,o,R,e,k,k2⟩:=h;unfold oK at e;cases e1:f ρ with
 |none=>simp only[e1]at e;cases e
 |some o1=>
  cases o1 with
  |nx ρ1=>simp only[e1]at e;exact⟨F,ρ,H0,_,R,e1,λσ' H0' H' s R'=>⟨F,ρ1,H0',o,R',e,k.back s,k2⟩,k2⟩
  |bk ρ1=>simp only[e1]at e;cases e;exact⟨F,ρ,H0,_,R,e1,k,k2⟩
  |ct ρ1=>simp only[e1]at e;cases e;exact⟨F,ρ,H0,_,R,e1,k,k2⟩
  |rt d ρ1=>simp only[e1]at e;cases e;exact⟨F,ρ,H0,_,R,e1,k,k2⟩
  |rn d ρ1=>simp only[e1]at e;cases e;exact⟨F,ρ,H0,_,R,e1,k,k2⟩
theorem Km{st:Stmt}{f:FS}(h1:PS X st (tFS G f)):PSs X [st] (tFS G f):=zd h1
noncomputable def px(f:FE):FS:=λρ=>match f ρ with
 |some (d,ρ')=>some (.rt d ρ')
 |none=>none
noncomputable def qM(f:FA):FS:=λρ=>match f ρ with
 |some (d,ρ')=>some (.rn d ρ')
 |none=>none
theorem o9{α:Type}{f:List Sl->Option (α×List Sl)}:f ρ=none\/∃d ρ',f ρ=some (d,ρ'):=by
 cases e:f ρ with
 |none=>exact .inl rfl
 |some p=>exact .inr ⟨p.1,p.2,rfl⟩
theorem Kn(h:PE X e (tF G f)):PS X (.Return (some e) pos) (tFS G (px f)):=PS.weak (Dp h) λE σ H hh=>by
 obtain⟨F,ρ,H0,o,R,e,k,k2⟩:=hh;unfold px at e;rcases o9 (f:=f) (ρ:=ρ)with e1|⟨d,ρ',e1⟩<;>simp only[e1]at e
 ·cases e
 ·cases e;exact⟨F,ρ,H0,d,ρ',R,e1,λv H0' H' s R' r=>k _ _ _ _ s R' r⟩
theorem Hs{f:FA}(h:PE X e (tFN G f)):PS X (.Return (some e) pos) (tFS G (qM f)):=PS.weak (Dp h) λE σ H hh=>by
 obtain⟨F,ρ,H0,o,R,e,k,k2⟩:=hh;unfold qM at e;rcases o9 (f:=f) (ρ:=ρ)with e1|⟨d,ρ',e1⟩<;>simp only[e1]at e
 ·cases e
 ·cases e;exact⟨F,ρ,H0,d,ρ',R,e1,λp xs H0' H' s R' h1 h2 h3 h4 h5=>k _ _ _ _ _ s R' h1 h2 h3 h4 h5⟩
noncomputable def qD(f:FE):FS:=λρ=>match f ρ with
 |some (_,ρ')=>some (.nx ρ')
 |none=>none
theorem Ht(h:PE X e (tF G f))(hs:cj e none pos.line X.env=pure false:=by rfl):PS X (.Expr e pos) (tFS G (qD f)):=PS.weak (Bu h hs) λE σ H hh=>by
 obtain⟨F,ρ,H0,o,R,e,k,k2⟩:=hh;unfold qD at e;rcases o9 (f:=f) (ρ:=ρ)with e1|⟨d,ρ',e1⟩<;>simp only[e1]at e
 ·cases e
 ·cases e;exact⟨F,ρ,H0,d,ρ',R,e1,λv H0' H' s R' r=>k _ _ _ s R'⟩
noncomputable def sIf(c:FT) (f g:FS):FS:=λρ=>match c ρ with
 |some (true,ρ')=>f ρ'
 |some (false,ρ')=>g ρ'
 |none=>none
theorem ND{c:Expr}{a b:List Stmt}{h:FT}{f g:FS}(hc:PT X c (tFT G h))(ha:PSs X a (tFS G f))(hb:PSs X b (tFS G g)):PS X (.If c a b pos) (tFS G (sIf h f g)):=PS.weak (LS hc ha hb) λE σ H hh=>by
 obtain⟨F,ρ,H0,o,R,e,k,k2⟩:=hh;unfold sIf at e;rcases o9 (f:=h) (ρ:=ρ)with e1|⟨d,ρ',e1⟩
 ·simp only[e1]at e;cases e
 ·refine⟨F,ρ,H0,d,ρ',R,e1,λH0' H' s R'=>?_⟩;cases d with
  |true=>simp only[e1]at e;exact BL ⟨F,ρ',H0',o,R',e,k.back s,k2⟩
  |false=>simp only[e1]at e;exact BK ⟨F,ρ',H0',o,R',e,k.back s,k2⟩
abbrev FG:=D->List Sl->Option (List Sl)
def tFG(G:Bg)(n:Nat)(g:FG):TG:=λv σ H Q=>∃F ρ H0 d ρ',o8 G F σ ρ H0 H/\Rep G H0 d v/\g d ρ=some ρ'/\∀σ',σ'.drop n=σ.drop n->o8 G F σ' ρ' H0 H->Q σ' H
def Hu(G:Bg)(n:Nat)(g:List D->List Sl->Option (List Sl)):TGs:=λvs σ H Q=>∃F ρ H0 ds ρ',o8 G F σ ρ H0 H/\oN G H0 ds vs/\g ds ρ=some ρ'/\∀σ',σ'.drop n=σ.drop n->o8 G F σ' ρ' H0 H->Q σ' H
theorem PG.weak{t t':TG}(h:PG X e t)(w:∀v σ H Q,t' v σ H Q->t v σ H Q):PG X e t':=λpins s σ H x u Q I r hq=>h pins s σ H x u Q I r (w _ _ _ _ hq)
theorem PGs.weak{e:List Expr}{t t':TGs}(h:PGs X e t)(w:∀v σ H Q,t' v σ H Q->t v σ H Q):PGs X e t':=λpins s σ H x u Q I r hq=>h pins s σ H x u Q I r (w _ _ _ _ hq)
def gN(i:Nat):FG:=λd ρ=>some (ρ.set i (.im d))
theorem CG{α:Type}{l:List α}{n:Nat}{x:α}(h:i<n):(l.set i x).drop n=l.drop n:=by apply kH;intro j;rw[c4,c4,bG,ai (by omega)]
theorem Hv(n:Nat)(h:PG X tg (uA i))(hi:i<n):PG X tg (tFG G n (gN i)):=PG.weak h λv σ H Q hh=>by obtain⟨F,ρ,H0,d,ρ',R,r,e,k⟩:=hh;cases e;exact k _ (CG hi) (R.setIm i r)
def Hw:List D->List Sl->Option (List Sl):=λds ρ=>match ds with
 |[]=>some ρ
 |_=>none
def w5(g:FG)(gs:List D->List Sl->Option (List Sl)):List D->List Sl->Option (List Sl):=λds ρ=>match ds with
 |d::r=>match g d ρ with
  |some ρ'=>gs r ρ'
  |none=>none
 |[]=>none
theorem Ko{n:Nat}(h:PGs X [] Qr):PGs X [] (Hu G n Hw):=PGs.weak h λv σ H Q hh=>by
 obtain⟨F,ρ,H0,ds,ρ',R,r,e,k⟩:=hh;cases ds with
 |nil=>cases e;unfold oN at r;exact⟨r,k _ rfl R⟩
 |cons d ds=>cases e
theorem Hy{n:Nat}{g:FG}(h:PGs X (e::es) (LU (tFG G n g) (Hu G n gs))):PGs X (e::es) (Hu G n (w5 g gs)):=PGs.weak h λv σ H Q hh=>by
 obtain⟨F,ρ,H0,ds,ρ',R,r,e,k⟩:=hh;cases ds with
 |nil=>cases e
 |cons d ds=>
  unfold oN at r;obtain⟨v1,r1,rfl,q1,q2⟩:=r;unfold w5 at e;cases e1:g d ρ with
  |none=>simp only[e1]at e;cases e
  |some ρ1=>simp only[e1]at e;exact⟨v1,r1,rfl,F,ρ,H0,d,ρ1,R,q1,e1,λσ' s R'=>⟨F,ρ1,H0,ds,ρ',R',q2,e,λσ'' s' R''=>k _ (s'.trans s) R''⟩⟩
def gT(gs:List D->List Sl->Option (List Sl))(n:Nat):FG:=λd ρ=>match d with
 |.tup ds=>if ds.length=n then gs ds ρ else none
 |_=>none
theorem Kp{n m:Nat}{k:Nat}(h:PG X (.Tuple es k pos) (MO G.K m (Hu G n gs))):PG X (.Tuple es k pos) (tFG G n (gT gs m)):=PG.weak h λv σ H Q hh=>by
 obtain⟨F,ρ,H0,d,ρ',R,r,e,k⟩:=hh;cases d with
 |tup ds=>
  unfold gT at e;simp only at e;split at e
  ·rename_i hl;unfold Rep at r;obtain⟨a,xs,rfl,h1,h2⟩:=r;exact⟨a,xs,rfl,SqT.mono R.sub h1,by rw[<-oM h2];exact hl,F,ρ,H0,ds,ρ',R,h2,e,k⟩
  ·cases e
 |_=>cases e
def pd(i:Nat)(f:FE):FS:=λρ=>match f ρ with
 |some (d,ρ')=>some (.nx (ρ'.set i (.im d)))
 |none=>none
theorem EE{st:Stmt}(h:PS X st (yf (tF G f) (uA i))):PS X st (tFS G (pd i f)):=PS.weak h λE σ H hh=>by
 obtain⟨F,ρ,H0,o,R,e,k,k2⟩:=hh;unfold pd at e;rcases o9 (f:=f) (ρ:=ρ)with e1|⟨d,ρ',e1⟩<;>simp only[e1]at e
 ·cases e
 ·cases e;exact⟨F,ρ,H0,d,ρ',R,e1,λv H0' H' s R' r=>k _ _ _ s (R'.setIm i r)⟩
def tV(i:Nat)(f:FA):FS:=λρ=>match f ρ with
 |some (d,ρ')=>some (.nx (ρ'.set i (.ls d)))
 |none=>none
theorem Hz{st:Stmt}{f:FA}(h:PS X st (yf (tFN G f) (uA i))):PS X st (tFS G (tV i f)):=PS.weak h λE σ H hh=>by
 obtain⟨F,ρ,H0,o,R,e,k,k2⟩:=hh;unfold tV at e;rcases o9 (f:=f) (ρ:=ρ)with e1|⟨d,ρ',e1⟩<;>simp only[e1]at e
 ·cases e
 ·cases e;exact⟨F,ρ,H0,d,ρ',R,e1,λp xs H0' H' s R' h1 h2 h3 h4 h5=>k _ _ _ s (R'.setLs i h1 h2 h3 h4 h5)⟩
def stE(n:Nat)(ds:List D):List Sl:=ds.map Sl.im++gA (n - ds.length) .un
def fnD(np n:Nat)(f:FS):List D->Option D:=λds=>if ds.length=np then match f (stE n ds)with
 |some (.rt d _)=>some d
 |some (.rn ds _)=>some (.lst ds)
 |some (.nx _)=>some .non
 |_=>none
 else none
def fnN(np n:Nat)(f:FS):List D->Option (List D):=λds=>if ds.length=np then match f (stE n ds)with
 |some (.rn ds _)=>some ds
 |_=>none
 else none
def spF(G:Bg)(g:List D->Option D):Sp:=λvs H Q _=>∃H0 ds d,oW H0 H/\oN G H0 ds vs/\g ds=some d/\
 ∀v H0' H',oW H0 H0'->oW H0' H'->oW H H'->(∀b o,H0' b=some o->H0 b=some o\/H b=none)->Rep G H0' d v->Q v H'
def spN(G:Bg)(g:List D->Option (List D)):Sp:=λvs H Q _=>∃H0 ds d,oW H0 H/\oN G H0 ds vs/\g ds=some d/\
 ∀p xs H0' H',oW H0 H0'->oW H0' H'->oW H H'->(∀b o,H0' b=some o->H0 b=some o\/H b=none)->H p=none->H' p=some (.lst xs)->H0' p=none->oN G H0' d xs->Q (.ref p) H'
theorem xD{n:Nat}{s:Sl}(h:(stE n ds)[i]?=some s):s=.un\/∃d,ds[i]?=some d/\s=.im d:=by
 unfold stE at h;by_cases hi:i<ds.length
 ·rw[cY (by simpa using hi),aY,aQ hi]at h;cases h;exact .inr ⟨_,aQ hi,rfl⟩
 ·rw[dr (by simpa using hi),f7]at h;split at h
  ·cases h;exact .inl rfl
  ·cases h
theorem sd{v:V}(h:vs[i]?=some v):((L2.start N vs)[i]?).join=some v:=by unfold L2.start;have hi:=(br.mp h).1;rw[cY (by simpa using hi),aY,h];rfl
theorem ym{H:Hp}(s:oW H0 H)(r:oN G H0 ds vs)(hl:vs.length<=N.length):o8 G ⟨H0,H,[]⟩ (L2.start N vs) (stE N.length ds) H0 H where
 sub:=s
 g0:=oW.refl _
 keep:=λb o e _=>e
 fr:=λb o e=>.inl e
 am:=λa h=>by cases h
 len:=by unfold L2.start stE;rw[au,au,ag,ag,b8,b8,oM r]
 sl:=λi t e=>by
  rcases xD e with rfl|⟨d,e1,rfl⟩
  ·trivial
  ·obtain⟨v,e2,e3⟩:=sA r e1;exact⟨v,sd e2,e3⟩
 ap:=λi j t u a _ e _ ht=>by rcases xD e with rfl|⟨d,_,rfl⟩<;>cases ht
theorem CH{n:Nat}{f:FS}{d:D}(h:fnD np n f ds=some d):ds.length=np/\((∃ρ,f (stE n ds)=some (.rt d ρ))\/(∃xs ρ,f (stE n ds)=some (.rn xs ρ)/\d=.lst xs)\/∃ρ,f (stE n ds)=some (.nx ρ)/\d=.non):=by
 unfold fnD at h;split at h
 ·rename_i hl;refine⟨hl,?_⟩;split at h
  ·rename_i e;cases h;exact .inl ⟨_,e⟩
  ·rename_i e;cases h;exact .inr (.inl ⟨_,_,e,rfl⟩)
  ·rename_i e;cases h;exact .inr (.inr ⟨_,e,rfl⟩)
  ·cases h
 ·cases h
theorem CJ{n:Nat}{f:FS}{xs:List D}(h:fnN np n f ds=some xs):ds.length=np/\∃ρ,f (stE n ds)=some (.rn xs ρ):=by
 unfold fnN at h;split at h
 ·rename_i hl;refine⟨hl,?_⟩;split at h
  ·rename_i e;cases h;exact⟨_,e⟩
  ·cases h
 ·cases h
end
variable{E:XK}
theorem Kq{f:FS}{H:Hp}{Q:VK}(hN:np<=N.length)(h:spF G (fnD np N.length f) vs H Q E):tFS G f { nx:=λ_ H'=>Q .non H',rt:=Q } (L2.start N vs) H:=by
 obtain⟨H0,ds,d,s,r,e,k⟩:=h;obtain⟨hl,e'⟩:=CH e;clear e;have R:=ym (N:=N) s r (by rw[<-oM r,hl];exact hN);have fin:∀{σ':St} {ρ':List Sl} {H0' H':Hp},o8 G ⟨H0,H,[]⟩ σ' ρ' H0' H'->oW H H'/\oW H0' H'/\∀b o,H0' b=some o->H0 b=some o\/H b=none:=λR'=>⟨λb o e=>R'.keep b o e (by simp),R'.sub,R'.fr⟩;rcases e' with ⟨ρ,e⟩|⟨xs,ρ,e,rfl⟩|⟨ρ,e,rfl⟩
 ·refine⟨_,_,H0,_,R,e,λv σ' H0' H' s' R' rv=>?_,λ_=>rfl⟩;obtain⟨h1,h2,h3⟩:=fin R';exact k v H0' H' s' h2 h1 h3 rv
 ·refine⟨_,_,H0,_,R,e,λp ys σ' H0' H' s' R' hp h0 hb ap rs=>?_,λ_=>rfl⟩;have R2:=R'.freeze hp h0 hb ap;obtain⟨h1,h2,h3⟩:=fin R2;exact k _ _ H' (s'.trans (o6 h0 _)) h2 h1 h3 (uZ oZ (oN.mono (o6 h0 _) _ _ rs))
 ·refine⟨_,_,H0,_,R,e,λσ' H0' H' s' R'=>?_,λ_=>rfl⟩;obtain⟨h1,h2,h3⟩:=fin R';exact k _ H0' H' s' h2 h1 h3 xB
theorem Kr{f:FS}{H:Hp}{Q:VK}(hN:np<=N.length)(h:spN G (fnN np N.length f) vs H Q E):tFS G f { nx:=λ_ H'=>Q .non H',rt:=Q } (L2.start N vs) H:=by obtain⟨H0,ds,d,s,r,e,k⟩:=h;obtain⟨hl,ρ,e⟩:=CJ e;have R:=ym (N:=N) s r (by rw[<-oM r,hl];exact hN);refine⟨_,_,H0,_,R,e,λp ys σ' H0' H' s' R' hp h0 hb ap rs=>?_,λ_=>rfl⟩;exact k p ys H0' H' s' R'.sub (λb o e=>R'.keep b o e (by simp)) R'.fr hb hp h0 rs
theorem QV{g:List D->Option D}(hg:∀ds d,g ds=some d->ds.length=np):∀vs H Q E,spF G g vs H Q E->vs.length=np:=λvs H Q E h=>by obtain⟨H0,ds,d,_,r,e,_⟩:=h;rw[<-oM r];exact hg _ _ e
theorem QW{g:List D->Option (List D)}(hg:∀ds d,g ds=some d->ds.length=np):∀vs H Q E,spN G g vs H Q E->vs.length=np:=λvs H Q E h=>by obtain⟨H0,ds,d,_,r,e,_⟩:=h;rw[<-oM r];exact hg _ _ e
theorem Ks{n:Nat}{f:FS}:∀ds d,fnD np n f ds=some d->ds.length=np:=λ_ _ h=>(CH h).1
theorem Kt{n:Nat}{f:FS}:∀ds d,fnN np n f ds=some d->ds.length=np:=λ_ _ h=>(CJ h).1
def yn{α:Type}(g:List D->Option α)(a:FA):List Sl->Option (α×List Sl):=λρ=>match a ρ with
 |some (ds,ρ')=>match g ds with
  |some d=>some (d,ρ')
  |none=>none
 |none=>none
abbrev oP(g:List D->Option D)(a:FA):FE:=yn g a
abbrev qe(g:List D->Option (List D))(a:FA):FA:=yn g a
theorem w6{α:Type}{g:List D->Option α}{a:FA}{d:α}(h:yn g a ρ=some (d,ρ')):∃ds,a ρ=some (ds,ρ')/\g ds=some d:=by
 unfold yn at h;rcases o9 (f:=a) (ρ:=ρ)with e1|⟨ds,ρ1,e1⟩<;>simp only[e1]at h
 ·cases h
 ·cases e2:g ds with
  |none=>simp only[e2]at h;cases h
  |some x=>simp only[e2]at h;cases h;exact⟨ds,e1,e2⟩
variable{dvs:List V}{dds:List D}
section
variable{X:Cx}{G:Bg}
theorem Ku{g:List D->Option D}{a:FA}(hd:∀H,oN G H dds dvs):∀σ H Q,tF G (oP (λds=>g (ds++dds)) a) σ H Q->wN (spF G g) dvs E (tFA G a) σ H Q:=λσ H Q hh=>by obtain⟨F,ρ,H0,d,ρ',R,e,k⟩:=hh;obtain⟨ds,e1,e2⟩:=w6 e;refine⟨F,ρ,H0,ds,ρ',R,e1,λxs H1 H1' s R' rs=>⟨H1,ds++dds,d,R'.sub,qh rs (hd _),e2,λv H2 H2' s1 s2 s3 fr rv=>?_⟩⟩;exact k v H2 H2' (s.trans s1) (R'.grow s3 s1 s2 fr) rv
theorem Kv{g:List D->Option (List D)}{a:FA}(hd:∀H,oN G H dds dvs):∀σ H Q,tFN G (qe (λds=>g (ds++dds)) a) σ H Q->wN (spN G g) dvs E (tFA G a) σ H Q:=λσ H Q hh=>by obtain⟨F,ρ,H0,d,ρ',R,e,k⟩:=hh;obtain⟨ds,e1,e2⟩:=w6 e;refine⟨F,ρ,H0,ds,ρ',R,e1,λxs H1 H1' s R' rs=>⟨H1,ds++dds,d,R'.sub,qh rs (hd _),e2,λp ys H2 H2' s1 s2 s3 fr hn hp h0 rv=>?_⟩⟩;exact k p ys H2 H2' (s.trans s1) (R'.grow s3 s1 s2 fr) hp h0 (R'.bNone hn) (R'.apart hn) rv
end
variable{ff:FE}{ta:TE}{apos:Pos}{c:Nat}
section
variable{X:Cx}{G:Bg}
theorem Kw{g:List D->Option D}{a:FA}(hd:∀H,oN G H dds dvs)(h:PE X e (wN (spF G g) dvs E (tFA G a))):PE X e (tF G (oP (λds=>g (ds++dds)) a)):=PE.weak h (Ku hd)
theorem HA{g:List D->Option (List D)}{a:FA}(hd:∀H,oN G H dds dvs)(h:PE X e (wN (spN G g) dvs E (tFA G a))):PE X e (tFN G (qe (λds=>g (ds++dds)) a)):=PE.weak h (Kv hd)
theorem FU{g:List D->Option (List D)}(h:PE X e (wN (spN G g) [] E Cn)):PE X e (tFN G (qe g pC)):=PE.weak h λσ H Q hh=>by obtain⟨F,ρ,H0,d,ρ',R,e,k⟩:=hh;obtain⟨ds,e1,e2⟩:=w6 e;cases e1;exact⟨H0,[],d,R.sub,pB,e2,λp ys H2 H2' s1 s2 s3 fr hn hp h0 rv=>k p ys H2 H2' s1 (R.grow s3 s1 s2 fr) hp h0 (R.bNone hn) (R.apart hn) rv⟩
def FV:List Str->List D->Str->Option D
 |n::ns,d::ds,f=>if n=f then some d else FV ns ds f
 |_,_,_=>none
theorem AZ{H:Hp}:∀{ns:List Str} {ds:List D} {xs:List V} {f:Str} {d:D},oN G H ds xs->FV ns ds f=some d->∃v,(ns.zip xs).lookup f=some v/\Rep G H d v
 |[],ds,xs,f,d,r,e=>by simp[FV]at e
 |n::ns,[],xs,f,d,r,e=>by simp[FV]at e
 |n::ns,d'::ds,xs,f,d,r,e=>by
  unfold oN at r;obtain⟨v,q,rfl,h1,h2⟩:=r;unfold FV at e;by_cases hn:n=f
  ·rw[ah hn]at e;cases e;subst hn;exact⟨v,by simp[cF],h1⟩
  ·rw[ai hn]at e;obtain⟨w,e1,e2⟩:=AZ h2 e;refine⟨w,?_,e2⟩;have hb:(f==n)=false:=beq_eq_false_iff_ne.mpr λz=>hn z.symm;simp only[dw,cF,hb];exact e1
def oH(ok:Nat->Bool)(f:Str):D->Option D
 |.obj c ns ds=>if ok c=true then FV ns ds f else none
 |_=>none
theorem HB{f:Str}{ok:Nat->Bool}(he:PE X e (tF G ff))(hc:∀c,ok c=true->Cls X.K (G.ca c)/\tE X.K (G.ca c) f)(hb:dY e f X.env (eval e X.env)=eval e X.env:=by rfl):PE X (.Attribute e f pos) (tF G (c1 (oH ok f) ff)):=PE.weak (M6 he hb) λσ H Q hh=>by
 obtain⟨F,ρ,H0,d,ρ',R,e,k⟩:=hh;obtain⟨x,e1,e2⟩:=ze e;cases x with
 |obj c ns ds=>
  unfold oH at e2;simp only at e2;split at e2
  ·rename_i hk;refine⟨F,ρ,H0,_,ρ',R,e1,λv H1 H1' s R' r=>?_⟩;unfold Rep at r;obtain⟨a,dx,xs,rfl,h1,h2,h3⟩:=r;obtain⟨w,l1,l2⟩:=AZ h3 e2;exact⟨a,_,dx,_,w,rfl,R'.sub _ _ h1,(hc c hk).1,(hc c hk).2,l1,k _ _ _ s R' l2⟩
  ·cases e2
 |_=>cases e2
def MOk(X:Cx)(C:Addr)(m:Str)(sp:Sp)(dvs:List V)(E:XK):Prop:=∃(k:Nat) (f:Addr) (fd:bA) (ps:List Str) (ds:List aa),Cls X.K C/\Meth X.K C m f/\rJ X.prog X.w X.K X.mg X.base CX0 k f fd ps sp/\qg k X.A/\Binds X.K fd ps ds/\Vals dvs ds/\Passes CX0 X E
def rE(g:Nat->Option (List D->Option D))(m:Str)(f:FE)(a:FA):FE:=λρ=>match f ρ with
 |some (.obj c ns ds,ρ1)=>match g c with
  |some h=>if ns.contains m=true then none else match a ρ1 with
   |some (es,ρ2)=>match h (.obj c ns ds::es)with
    |some d=>some (d,ρ2)
    |none=>none
   |none=>none
  |none=>none
 |_=>none
theorem zL{g:Nat->Option (List D->Option D)}{m:Str}{a:FA}{d:D}(h:rE g m f a ρ=some (d,ρ')):
  ∃c ns ds ρ1 hh es,f ρ=some (.obj c ns ds,ρ1)/\g c=some hh/\ns.contains m=false/\a ρ1=some (es,ρ')/\hh (.obj c ns ds::es)=some d:=by
 unfold rE at h;split at h
 ·rename_i c ns ds ρ1 e1;cases e2:g c with
  |none=>simp only[e2]at h;cases h
  |some hh=>
   simp only[e2]at h;cases e3:ns.contains m with
   |true=>simp only[e3,if_true]at h;cases h
   |false=>
    simp only[e3,fz,if_false]at h;rcases o9 (f:=a) (ρ:=ρ1)with e4|⟨es,ρ2,e4⟩<;>simp only[e4]at h
    ·cases h
    ·cases e5:hh (.obj c ns ds::es)with
     |none=>simp only[e5]at h;cases h
     |some x=>simp only[e5]at h;cases h;exact⟨c,ns,ds,ρ1,hh,es,e1,e2,e3,e4,e5⟩
 ·cases h
theorem w9{m:Str}:∀{ns:List Str} {xs:List V},ns.contains m=false->(ns.zip xs).lookup m=none
 |[],xs,h=>rfl
 |n::ns,[],h=>rfl
 |n::ns,x::xs,h=>by rw[kA,fi]at h;simp only[dw,cF,h.1];exact w9 h.2
theorem HC{o:Expr}{t:TA}{m:Str}{pl:Sem Bool}(T:Addr->Sp->Prop)(hT:∀C sp,T C sp->MOk X C m sp dvs E)(he:PE X o ta)(ha:PA X (e::es) t)
  (hst:az (e::es) X.env=(false,eval e X.env)::az es X.env:=by rfl) (hpl:(aZ pos (az es X.env)).any (·.1)=false:=by rfl)
  (ht:eval (.Call (.Attribute o m apos) (e::es) [] pos) X.env=(do
   let ov<-eval o X.env
   standAt apos.atName
   let (f,first)<-holding [ov] (getMethod ov m pl)
   callWith pos f first (aZ pos (az (e::es) X.env)) (backToKw pos (dj [] X.env))):=by rfl):
  PE X (.Call (.Attribute o m apos) (e::es) [] pos) (λσ H Q=>ta σ H λx H1=>∃a C dx fs sp,x=.ref a/\H1 a=some (.ins C dx fs)/\T C sp/\fs.lookup m=none/\t σ H1 λvs H2=>sp (x::(vs++dvs)) H2 Q E):=by
 intro pins s σ H Q I h;refine ly (pl:=pl) (thn (he pins s σ H _ I h) λu s1 zz=>?_) ht;obtain⟨x,H1,I1,rx,a,C,dx,fs,sp,ex,ea,ht,l,q⟩:=zz;obtain⟨k,f,fd,ps,ds,c,hm,F,hr,hb,hd,hx⟩:=hT C sp ht;subst ex;obtain rfl:u=Value.ref a:=rx;refine zu I1 ea c hm l ?_;refine gH (first:=[.ref a]) (h₀:=X.base) I.ok.mod.kin hm.kp (thn (ha pos pins s1 σ H1 _ I1 q) λus s2 ⟨vs,H2,I2,r,q2⟩=>⟨I2.kIn,?_⟩) hst hpl;exact Bw (us:=.ref a::us) (vs:=.ref a::vs) F hr hb hd hx I2 (.cons rfl r) q2
theorem FW{o:Expr}{m:Str}{pl:Sem Bool}(T:Addr->Sp->Prop)(hT:∀C sp,T C sp->MOk X C m sp dvs E)(he:PE X o ta)
  (ht:eval (.Call (.Attribute o m apos) [] [] pos) X.env=(do
   let ov<-eval o X.env
   standAt apos.atName
   let (f,first)<-holding [ov] (getMethod ov m pl)
   callWith pos f first (aZ pos (az [] X.env)) (backToKw pos (dj [] X.env))):=by rfl):
  PE X (.Call (.Attribute o m apos) [] [] pos) (λσ H Q=>ta σ H λx H1=>∃a C dx fs sp,x=.ref a/\H1 a=some (.ins C dx fs)/\T C sp/\fs.lookup m=none/\sp (x::dvs) H1 Q E):=by
 intro pins s σ H Q I h;refine ly (pl:=pl) (thn (he pins s σ H _ I h) λu s1 zz=>?_) ht;obtain⟨x,H1,I1,rx,a,C,dx,fs,sp,ex,ea,ht,l,q⟩:=zz;obtain⟨k,f,fd,ps,ds,c,hm,F,hr,hb,hd,hx⟩:=hT C sp ht;subst ex;obtain rfl:u=Value.ref a:=rx;refine zu I1 ea c hm l ?_;exact lZ (first:=[.ref a]) I1.kIn hm.kp (Bw (us:=[.ref a]) (vs:=[.ref a]) F hr hb hd hx I1 (.cons rfl .nil) q)
def MT(G:Bg)(g:Nat->Option (List D->Option D)):Addr->Sp->Prop:=λC sp=>∃c h,g c=some h/\C=G.ca c/\sp=spF G h
theorem Ky{o:Expr}{a:FA}{m:Str}{g:Nat->Option (List D->Option D)}(h:PE X (.Call (.Attribute o m apos) (e::es) [] pos) (λσ H Q=>tF G f σ H λx H1=>∃a' C dx fs sp,x=.ref a'/\H1 a'=some (.ins C dx fs)/\MT G g C sp/\fs.lookup m=none/\tFA G a σ H1 λvs H2=>sp (x::(vs++[])) H2 Q E)):
  PE X (.Call (.Attribute o m apos) (e::es) [] pos) (tF G (rE g m f a)):=PE.weak h λσ H Q hh=>by
 obtain⟨F,ρ,H0,d,ρ',R,e,k⟩:=hh;obtain⟨c,ns,ds,ρ1,hh,es',e1,e2,e3,e4,e5⟩:=zL e;refine⟨F,ρ,H0,_,ρ1,R,e1,λv H1 H1' s R' r=>?_⟩;have r0:=r;unfold Rep at r;obtain⟨a',dx,xs,rfl,h1,h2,h3⟩:=r;refine⟨a',_,dx,_,_,rfl,R'.sub _ _ h1,⟨c,hh,e2,rfl,rfl⟩,w9 e3,F,ρ1,H1,es',ρ',R',e4,λys H2 H2' s2 R2 rs=>?_⟩;show spF G hh (V.ref a'::(ys++[])) H2' Q E;rw[bH];exact⟨H2,_,d,R2.sub,pI (Rep.mono s2 _ _ r0) rs,e5,λv H3 H3' t1 t2 t3 fr rv=>k v H3 H3' (s.trans (s2.trans t1)) (R2.grow t3 t1 t2 fr) rv⟩
theorem HD{o:Expr}{m:Str}{g:Nat->Option (List D->Option D)}(h:PE X (.Call (.Attribute o m apos) [] [] pos) (λσ H Q=>tF G f σ H λx H1=>∃a' C dx fs sp,x=.ref a'/\H1 a'=some (.ins C dx fs)/\MT G g C sp/\fs.lookup m=none/\sp (x::[]) H1 Q E)):
  PE X (.Call (.Attribute o m apos) [] [] pos) (tF G (rE g m f pC)):=PE.weak h λσ H Q hh=>by
 obtain⟨F,ρ,H0,d,ρ',R,e,k⟩:=hh;obtain⟨c,ns,ds,ρ1,hh,es',e1,e2,e3,e4,e5⟩:=zL e;cases e4;refine⟨F,ρ,H0,_,_,R,e1,λv H1 H1' s R' r=>?_⟩;have r0:=r;unfold Rep at r;obtain⟨a',dx,xs,rfl,h1,h2,h3⟩:=r;refine⟨a',_,dx,_,_,rfl,R'.sub _ _ h1,⟨c,hh,e2,rfl,rfl⟩,w9 e3,?_⟩;exact⟨H1,_,d,R'.sub,pI r0 pB,e5,λv H3 H3' t1 t2 t3 fr rv=>k v H3 H3' (s.trans t1) (R'.grow t3 t1 t2 fr) rv⟩
def spI(G:Bg)(c:Nat)(g:List D->Option (List Str×List D)):Sp:=λvs H Q _=>∃(p dx:Addr) (us:List V) (H0:Hp) (ds:List D) (ns:List Str) (es:List D),vs=.ref p::us/\H p=some (.ins (G.ca c) dx [])/\H0 p=none/\oW H0 H/\oN G H0 ds us/\g ds=some (ns,es)/\
 ∀ys dx' H0' H',oW H0 H0'->oW H0' H'->(∀b o,H b=some o->b≠p->H' b=some o)->(∀b o,H0' b=some o->H0 b=some o\/H b=none)->H0' p=none->H' p=some (.ins (G.ca c) dx' (ns.zip ys))->ns.length=ys.length->oN G H0' es ys->Q .non H'
def pE(c:Nat)(g:List D->Option (List Str×List D))(a:FA):FE:=λρ=>match a ρ with
 |some (ds,ρ')=>match g ds with
  |some (ns,es)=>some (.obj c ns es,ρ')
  |none=>none
 |none=>none
theorem Kz{g:List D->Option (List Str×List D)}{a:FA}(hd:∀H,oN G H dds dvs)(h:PE X e (Ep (G.ca c) (spI G c g) dvs E (tFA G a))):PE X e (tF G (pE c (λds=>g (ds++dds)) a)):=PE.weak h λσ H Q hh=>by
 obtain⟨F,ρ,H0,d,ρ',R,e,k⟩:=hh;unfold pE at e;rcases o9 (f:=a) (ρ:=ρ)with e1|⟨ds,ρ1,e1⟩<;>simp only[e1]at e
 ·cases e
 ·cases e2:g (ds++dds)with
  |none=>simp only[e2]at e;cases e
  |some q=>
   obtain⟨ns,es⟩:=q;simp only[e2]at e;cases e;refine⟨F,ρ,H0,ds,ρ',R,e1,λxs H1 H1' s R' rs x dx hx hdx ne=>?_⟩;have hx2:(upd H1' dx (.own x)) x=none:=by rw[o3 (λz=>ne z.symm)];exact hx
   have sx:oW H1' (upd (upd H1' dx (.own x)) x (.ins (G.ca c) dx [])):=(o6 hdx _).trans (o6 hx2 _);refine⟨x,dx,_,H1,ds++dds,ns,es,rfl,oZ,R'.h0none hx,R'.sub.trans sx,qh rs (hd _),e2,λys dx' H2 H2' t1 t2 t3 fr h0 hp hl ry=>⟨rfl,?_⟩⟩;have t4:oW H1' H2':=λb o e=>t3 b o (sx b o e) (ql e hx);have fr1:∀b o,H2 b=some o->H1 b=some o\/H1' b=none:=λb o e=>by
    rcases fr b o e with q|q
    ·exact .inl q
    ·cases z:H1' b with
     |none=>exact .inr rfl
     |some u=>rw[sx b u z]at q;cases q
   have R2:=R'.grow t4 t1 t2 fr1;have hb:F.B x=none:=R'.bNone hx;have R3:=R2.freeze hp h0 hb (λi t ei to z=>R'.apart hx i t ei to z);refine k _ _ _ (s.trans (t1.trans (o6 h0 _))) R3 ?_;unfold Rep;exact⟨x,dx',ys,rfl,oZ,hl,oN.mono (o6 h0 _) _ _ ry⟩
def pG(c0:Nat)(i:Nat)(f:Str)(ff:FE):FS:=λρ=>match ff ρ with
 |some (d,ρ1)=>match ρ1[i]? with
  |some (.ob c ns ds)=>if c=c0 then if ns.contains f=true then none else if ds.length=ns.length then if ns.length<900 then some (.nx (ρ1.set i (.ob c (ns++[f]) (ds++[d]))))else none else none else none
  |_=>none
 |none=>none
theorem CK{f:Str}{v:V}:∀{ns:List Str} {xs:List V},ns.contains f=false->ns.length=xs.length->uB f v (ns.zip xs)=(ns++[f]).zip (xs++[v])
 |[],[],h,l=>rfl
 |[],x::xs,h,l=>by cases l
 |n::ns,[],h,l=>by cases l
 |n::ns,x::xs,h,l=>by
  rw[kA,fi]at h;have hn:¬n=f:=λz=>by rw[z]at h;simp at h
  have ih:=CK (f:=f) (v:=v) (ns:=ns) (xs:=xs) h.2 (by simpa using l);show uB f v ((n,x)::ns.zip xs)=_;rw[show uB f v ((n,x)::ns.zip xs)=(if n=f then (n,v)::ns.zip xs else (n,x)::uB f v (ns.zip xs)) from rfl,ai hn,ih];rfl
theorem KA{st:Stmt}{c0:Nat}{f:Str}(h:PS X st (QB X.K (vH i) (tF G ff) f))(hc:Cls X.K (G.ca c0)/\tE X.K (G.ca c0) f):PS X st (tFS G (pG c0 i f ff)):=PS.weak h λE σ H hh=>by
 obtain⟨F,ρ,H0,o,R,e,k,k2⟩:=hh;unfold pG at e;rcases o9 (f:=ff) (ρ:=ρ)with e1|⟨d,ρ1,e1⟩<;>simp only[e1]at e
 ·cases e
 ·split at e
  ·rename_i c ns ds e2;split at e
   ·rename_i hcc;subst hcc;split at e
    ·cases e
    rename_i hnc;split at e
    ·rename_i hl;split at e
     ·rename_i h9;cases e;refine⟨F,ρ,H0,d,ρ1,R,e1,λv H1 H1' s R' r=>?_⟩;obtain⟨a,dx,xs,e3,e4,e5,e6,e7,e8⟩:=R'.sl i _ e2;refine⟨_,rM e3,a,_,dx,_,rfl,e4,hc.1,hc.2,by rw[fK];omega,?_⟩;have hnf:ns.contains f=false:=by simpa using hnc
      rw[CK hnf e7];refine k _ _ _ s (R'.mut e2 rfl e3 (λH' hH=>?_) rfl);exact⟨a,dx,xs++[v],rfl,hH,e5,e6,by rw[au,au,e7];rfl,qh e8 (pI r pB)⟩
     ·cases e
    ·cases e
   ·cases e
  ·cases e
def stI(c n:Nat)(ds:List D):List Sl:=.ob c [] []::stE (n - 1) ds
def fnI(c np n:Nat)(f:FS):List D->Option (List Str×List D):=λds=>if ds.length=np then match f (stI c n ds)with
 |some (.nx ρ)=>match (ρ:List Sl)[0]? with
  |some (Sl.ob c' ns es)=>if c'=c then if ns.length=es.length then some (ns,es)else none else none
  |_=>none
 |_=>none
 else none
theorem zM{n:Nat}{f:FS}{q:List Str×List D}(h:fnI c np n f ds=some q):ds.length=np/\∃ρ,f (stI c n ds)=some (.nx ρ)/\ρ[0]?=some (.ob c q.1 q.2)/\q.1.length=q.2.length:=by
 unfold fnI at h;split at h
 ·rename_i hl;refine⟨hl,?_⟩;split at h
  ·rename_i ρ e;split at h
   ·rename_i c' ns es e2;split at h
    ·rename_i hc;split at h
     ·rename_i h3;subst hc;cases h;exact⟨ρ,e,e2,h3⟩
     ·cases h
    ·cases h
   ·cases h
  ·cases h
 ·cases h
theorem BO{f:FS}{H:Hp}{Q:VK}(hN:np+1<=N.length)(h:spI G c (fnI c np N.length f) vs H Q E):tFS G f { nx:=λ_ H'=>Q .non H',rt:=Q } (L2.start N vs) H:=by
 obtain⟨p,dx,us,H0,ds,ns,es,rfl,hp,h0,s,r,e,k⟩:=h;obtain⟨hl,ρ,e1,e2,e3⟩:=zM e;have hul:us.length=np:=by rw[<-oM r];exact hl
 have gets:∀{i:Nat} {t:Sl},(stI c N.length ds)[i]?=some t->(i=0/\t=.ob c [] [])\/t=.un\/∃(j:Nat) (d:D),i=j+1/\ds[j]?=some d/\t=.im d:=λ{i t} e=>by
  cases i with
  |zero=>cases e;exact .inl ⟨rfl,rfl⟩
  |succ j=>
   have e':(stE (N.length - 1) ds)[j]?=some t:=e;rcases xD e' with rfl|⟨d,e1,rfl⟩
   ·exact .inr (.inl rfl)
   ·exact .inr (.inr ⟨j,d,rfl,e1,rfl⟩)
 have R:o8 G ⟨H0,H,[p]⟩ (L2.start N (.ref p::us)) (stI c N.length ds) H0 H:={
  sub:=s
  g0:=oW.refl _
  keep:=λb o e _=>e
  fr:=λb o e=>.inl e
  am:=λa ha=>by
   have ea:a=p:=by simpa using ha
   subst ea;exact⟨_,hp⟩
  len:=by unfold L2.start stI stE;simp only[au,ag,b8,aA];have:=oM r;omega
  sl:=λi t e=>by
   rcases gets e with ⟨rfl,rfl⟩|rfl|⟨j,d,rfl,e1,rfl⟩
   ·exact⟨p,dx,[],sd rfl,hp,h0,by simp,rfl,pB⟩
   ·trivial
   ·obtain⟨v,e2,e3⟩:=sA r e1;exact⟨v,sd (by simpa using e2),e3⟩
  ap:=λi j t u a hij ei ej ht hu=>by
   rcases gets ei with ⟨rfl,rfl⟩|rfl|⟨_,_,_,_,rfl⟩
   ·rcases gets ej with ⟨rfl,rfl⟩|rfl|⟨_,_,_,_,rfl⟩
    ·exact ao rfl hij
    ·cases hu
    ·cases hu
   ·cases ht
   ·cases ht }
 refine⟨_,_,H0,_,R,e1,λσ' H0' H' s' R'=>?_,λ_=>rfl⟩;obtain⟨a,dx',ys,q1,q2,q3,q4,q5,q6⟩:=R'.sl 0 _ e2;have ea:a=p:=by simpa using q4
 subst ea;exact k ys dx' H0' H' s' R'.sub (λb o e n=>R'.keep b o e (by simpa using n)) R'.fr q3 q2 q5 q6
end
def Sl.L:Sl->Option (List D)
 |.ls ds=>some ds
 |.pm ds=>some ds
 |_=>none
def Sl.putL:Sl->List D->Sl
 |.pm _,ds=>.pm ds
 |_,ds=>.ls ds
theorem Sl.L_own{s:Sl}(h:s.L=some ds):s.own=true:=by cases s<;>first|rfl|cases h
theorem Sl.putL_L{s:Sl}:(s.putL ds).L=some ds:=by cases s<;>rfl
section
variable{G:Bg}{F:Fr}{σ:St}{ρ:List Sl}{H0 H:Hp}
theorem AI.lst{o:Option V}{s:Sl}{ds:List D}(h:AI G F H0 H o s)(e:s.L=some ds):∃a xs,o=some (.ref a)/\H a=some (.lst xs)/\H0 a=none/\oN G H0 ds xs:=by
 cases s with
 |ls ds'=>cases e;obtain⟨a,xs,h1,h2,h3,h4,h5⟩:=h;exact⟨a,xs,h1,h2,h3,h5⟩
 |pm ds'=>cases e;obtain⟨a,xs,h1,h2,h3,h4,h5⟩:=h;exact⟨a,xs,h1,h2,h3,h5⟩
 |_=>cases e
theorem o8.mutL(R:o8 G F σ ρ H0 H){s:Sl}{ds':List D}{xs':List V}(hi:ρ[i]?=some s)(hs:s.L=some ds)(ha:(σ[i]?).join=some (.ref a))(r:oN G H0 ds' xs'):
  o8 G F σ (ρ.set i (s.putL ds')) H0 (upd H a (.lst xs')):=by
 have ok:=R.sl i s hi;rw[ha]at ok;refine R.mut hi (Sl.L_own hs) ha (λH' hH=>?_) (Sl.L_own Sl.putL_L);cases s with
 |ls ds0=>obtain⟨b,xs,h1,h2,h3,h4,h5⟩:=ok;cases h1;exact⟨a,xs',rfl,hH,h3,h4,r⟩
 |pm ds0=>obtain⟨b,xs,h1,h2,h3,h4,h5⟩:=ok;cases h1;exact⟨a,xs',rfl,hH,h3,h4,r⟩
 |_=>cases hs
end
def qL(ρ:List Sl)(i:Nat):Option (List D):=match ρ[i]? with
 |some s=>s.L
 |none=>none
theorem se(h:qL ρ i=some ds):∃s,ρ[i]?=some s/\s.L=some ds:=by
 unfold qL at h;cases e:ρ[i]? with
 |none=>rw[e]at h;cases h
 |some s=>rw[e]at h;exact⟨s,rfl,h⟩
def putAt(ρ:List Sl)(i:Nat)(ds:List D):List Sl:=match ρ[i]? with
 |some s=>ρ.set i (s.putL ds)
 |none=>ρ
def vI(i:Nat)(f:FE):FE:=λρ=>match qL ρ i with
 |some _=>match f ρ with
  |some (d,ρ1)=>match qL ρ1 i with
   |some ds=>if ds.length<1000 then some (.non,putAt ρ1 i (ds++[d]))else none
   |none=>none
  |none=>none
 |none=>none
section
variable{X:Cx}{G:Bg}
theorem sD{H:Hp}(R:o8 G F σ ρ H0 H)(h:qL ρ i=some ds):∃a xs,σ[i]?=some (some (.ref a))/\H a=some (.lst xs)/\oN G H0 ds xs/\
  (∀ds' xs',oN G H0 ds' xs'->o8 G F σ (putAt ρ i ds') H0 (upd H a (.lst xs'))):=by
 obtain⟨s,e1,e2⟩:=se h;obtain⟨a,xs,e3,e4,e5,e6⟩:=(R.sl i s e1).lst e2;refine⟨a,xs,rM e3,e4,e6,λds' xs' r=>?_⟩;unfold putAt;rw[e1];exact R.mutL e1 e2 e3 r
theorem FX(h:PE X e (tBM G.K "list" BH (vH i) (tFA G (aCons f pC)))):PE X e (tF G (vI i f)):=PE.weak h λσ H Q hh=>by
 obtain⟨F,ρ,H0,d,ρ',R,e,k⟩:=hh;unfold vI at e;cases e0:qL ρ i with
 |none=>simp only[e0]at e;cases e
 |some ds0=>
  simp only[e0]at e;rcases o9 (f:=f) (ρ:=ρ)with e1|⟨x,ρ1,e1⟩<;>simp only[e1]at e
  ·cases e
  ·cases e2:qL ρ1 i with
   |none=>simp only[e2]at e;cases e
   |some ds=>
    simp only[e2]at e;split at e
    ·rename_i hl;cases e;obtain⟨a,xs,s1,s2,s3,_⟩:=sD R e0;refine⟨.ref a,s1,.inl ⟨rfl,xs,SqL.of s2⟩,F,ρ,H0,[x],ρ1,R,by unfold aCons;rw[e1];rfl,λys H1 H1' s R' rs=>?_⟩;unfold oN at rs;obtain⟨v,r0,rfl,rv,rn⟩:=rs;unfold oN at rn;subst rn;obtain⟨a',xs',t1,t2,t3,t4⟩:=sD R' e2;rw[s1]at t1;cases t1;exact⟨a,xs',v,rfl,rfl,t2,by rw[<-oM t3];exact wq (by omega),k _ _ _ s (t4 _ _ (qh t3 (pI rv pB))) xB⟩
    ·cases e
def KB(i:Nat)(f:FA):FE:=λρ=>match qL ρ i with
 |some _=>match f ρ with
  |some (es,ρ1)=>match qL ρ1 i with
   |some ds=>if ds.length+es.length<=1000 then some (.non,putAt ρ1 i (ds++es))else none
   |none=>none
  |none=>none
 |none=>none
theorem FY{f:FA}(h:PE X e (tBM G.K "list" Ey (vH i) (zv (tFN G f) Cn))):PE X e (tF G (KB i f)):=PE.weak h λσ H Q hh=>by
 obtain⟨F,ρ,H0,d,ρ',R,e,k⟩:=hh;unfold KB at e;cases e0:qL ρ i with
 |none=>simp only[e0]at e;cases e
 |some ds0=>
  simp only[e0]at e;rcases o9 (f:=f) (ρ:=ρ)with e1|⟨x,ρ1,e1⟩<;>simp only[e1]at e
  ·cases e
  ·cases e2:qL ρ1 i with
   |none=>simp only[e2]at e;cases e
   |some ds=>
    simp only[e2]at e;split at e
    ·rename_i hl;cases e;obtain⟨a,xs,s1,s2,s3,_⟩:=sD R e0;refine⟨.ref a,s1,.inl ⟨rfl,xs,SqL.of s2⟩,F,ρ,H0,x,ρ1,R,e1,λp ys H1 H1' s R' hp h0 hb ap rs=>?_⟩;obtain⟨a',xs',t1,t2,t3,t4⟩:=sD R' e2;rw[s1]at t1;cases t1;refine⟨a,p,xs',ys,rfl,rfl,t2,hp,?_,k _ _ _ s (t4 _ _ (qh t3 rs)) xB⟩;rw[<-oM t3,<- oM rs];exact rj hl
    ·cases e
def SA(i:Nat):FE:=λρ=>match qL ρ i with
 |some (d::ds)=>some (d,putAt ρ i ds)
 |_=>none
theorem zN{i:Int}{d:D}(r:oN G H0 ds xs)(h:atI ds i=some d):∃v,atI xs i=some v/\Rep G H0 d v:=by
 unfold atI at h ⊢;rw[<-oM r];cases e:ixN ds.length i with
 |none=>rw[e]at h;cases h
 |some j=>rw[e]at h;exact sA r h
def cFz(i:Nat):FE:=λρ=>match ρ[i]? with
 |some (.ls ds)=>some (.lst ds,ρ.set i (.im (.lst ds)))
 |some (.dk ks ds)=>some (.dic ks ds,ρ.set i (.im (.dic ks ds)))
 |some (.im d)=>some (d,ρ)
 |_=>none
theorem o8.toIm{H:Hp}(R:o8 G F σ ρ H0 H){s:Sl}{o:HO}{d:D}(hi:ρ[i]?=some s)(hs:(σ[i]?).join=some (.ref p))(so:s.own=true)(hp:H p=some o)(h0:H0 p=none)(hb:F.B p=none)(r:Rep G (upd H0 p o) d (.ref p)):
  o8 G F σ (ρ.set i (.im d)) (upd H0 p o) H where
 sub:=λb u e=>by
  by_cases hb:b=p
  ·subst hb;rw[oZ]at e;cases e;exact hp
  ·rw[o3 hb]at e;exact R.sub _ _ e
 g0:=R.g0.trans (o6 h0 o)
 keep:=R.keep
 fr:=λb u e=>by
  by_cases hb':b=p
  ·subst hb';exact .inr hb
  ·rw[o3 hb']at e;exact R.fr _ _ e
 am:=R.am
 len:=by rw[c7];exact R.len
 sl:=λj t e=>by
  rw[bG]at e;by_cases h:i=j
  ·subst h;rw[ah rfl]at e;split at e
   ·cases e;exact⟨_,hs,r⟩
   ·cases e
  ·rw[ai h]at e;refine(R.sl j t e).grow (o6 h0 o) (λa u _ _ q=>q) λa u z to q q0=>?_;rw[o3 (λy=>by subst y;exact R.ap j i t s a (λy=>h y.symm) e hi to so z hs)];exact q0
 ap:=λj k t u b hjk ej ek tj tk vj vk=>by
  have gen:∀{m:Nat} {x:Sl},(ρ.set i (.im d))[m]?=some x->x.own=true->ρ[m]?=some x:=λ{m x} e xo=>by
   rw[bG]at e;by_cases h:i=m
   ·subst h;rw[ah rfl]at e;split at e
    ·cases e;cases xo
    ·cases e
   ·rw[ai h]at e;exact e
  exact R.ap j k t u b hjk (gen ej tj) (gen ek tk) tj tk vj vk
theorem o8.toImD{H:Hp}(R:o8 G F σ ρ H0 H){s:Sl}{o:HO}{d:D}(hi:ρ[i]?=some s)(hs:(σ[i]?).join=some (.ref p))(so:s.own=true)(h0:H0 p=none)(hb:F.B p=none)(r:Rep G (upd H0 p o) d (.ref p)):
  o8 G F σ (ρ.set i (.im d)) (upd H0 p o) (upd H p o) where
 sub:=λb u e=>by
  by_cases hb:b=p
  ·subst hb;rw[oZ]at e ⊢;exact e
  ·rw[o3 hb]at e ⊢;exact R.sub _ _ e
 g0:=R.g0.trans (o6 h0 o)
 keep:=λb u e n=>by rw[o3 (λz=>by subst z;rw[hb]at e;cases e)];exact R.keep b u e n
 fr:=λb u e=>by
  by_cases hb':b=p
  ·subst hb';exact .inr hb
  ·rw[o3 hb']at e;exact R.fr _ _ e
 am:=λb hm=>by
  by_cases hb':b=p
  ·subst hb';exact⟨o,oZ⟩
  ·rw[o3 hb'];exact R.am b hm
 len:=by rw[c7];exact R.len
 sl:=λj t e=>by
  rw[bG]at e;by_cases h:i=j
  ·subst h;rw[ah rfl]at e;split at e
   ·cases e;exact⟨_,hs,r⟩
   ·cases e
  ·rw[ai h]at e;refine(R.sl j t e).grow (o6 h0 o) (λa u z to q=>?_) λa u z to q q0=>?_
   ·rw[o3 (λy=>by subst y;exact R.ap j i t s a (λy=>h y.symm) e hi to so z hs)];exact q
   ·rw[o3 (λy=>by subst y;exact R.ap j i t s a (λy=>h y.symm) e hi to so z hs)];exact q0
 ap:=λj k t u b hjk ej ek tj tk vj vk=>by
  have gen:∀{m:Nat} {x:Sl},(ρ.set i (.im d))[m]?=some x->x.own=true->ρ[m]?=some x:=λ{m x} e xo=>by
   rw[bG]at e;by_cases h:i=m
   ·subst h;rw[ah rfl]at e;split at e
    ·cases e;cases xo
    ·cases e
   ·rw[ai h]at e;exact e
  exact R.ap j k t u b hjk (gen ej tj) (gen ek tk) tj tk vj vk
theorem QX(h:PE X e (vH i)):PE X e (tF G (cFz i)):=PE.weak (PE.ghost h) λσ H Q hh=>by
 obtain⟨F,ρ,H0,d,ρ',R,e,k⟩:=hh;unfold cFz at e;split at e
 ·rename_i ds e0;cases e;obtain⟨a,xs,h1,h2,h3,h4,h5⟩:=R.sl i _ e0;have rr:Rep G (upd H0 a (.lst xs)) (.lst ds) (.ref a):=uZ oZ (oN.mono (o6 h3 _) _ _ h5);exact⟨_,rM h1,.inl (k _ _ _ (o6 h3 _) (R.toIm e0 h1 rfl h2 h3 h4 rr) rr)⟩
 ·rename_i ks ds e0;cases e;obtain⟨a,xs,h1,h2,h3,h4,h5,h6⟩:=R.sl i _ e0;refine⟨_,rM h1,.inr ⟨a,_,h2,λo=>?_⟩⟩;have rr:Rep G (upd H0 a (.frz o (.dK (ks.zip xs)))) (.dic ks ds) (.ref a):=by unfold Rep;exact⟨a,o,xs,rfl,oZ,h5,oN.mono (o6 h3 _) _ _ h6⟩
  exact k _ _ _ (o6 h3 _) (R.toImD e0 h1 rfl h3 h4 rr) rr
 ·rename_i d' e0;cases e;obtain⟨v,e2,e3⟩:=R.sl i _ e0;exact⟨v,rM e2,.inl (k _ _ _ (oW.refl _) R e3)⟩
 ·cases e
def BP(i:Nat):FA:=λρ=>match ρ[i]? with
 |some (.ls ds)=>some (ds,ρ.set i .un)
 |_=>none
theorem KC(h:PE X e (vH i)):PE X e (tFN G (BP i)):=PE.weak h λσ H Q hh=>by
 obtain⟨F,ρ,H0,d,ρ',R,e,k⟩:=hh;unfold BP at e;split at e
 ·rename_i ds e0;cases e;obtain⟨a,xs,h1,h2,h3,h4,h5⟩:=R.sl i _ e0;have gen:∀{m:Nat} {x:Sl},(ρ.set i .un)[m]?=some x->x.own=true->m≠i/\ρ[m]?=some x:=λ{m x} e xo=>by
   rw[bG]at e;by_cases h:i=m
   ·subst h;rw[ah rfl]at e;split at e
    ·cases e;cases xo
    ·cases e
   ·rw[ai h]at e;exact⟨λz=>h z.symm,e⟩
  have R':o8 G F σ (ρ.set i .un) H0 H:={
   sub:=R.sub,g0:=R.g0,keep:=R.keep,fr:=R.fr,am:=R.am
   len:=by rw[c7];exact R.len
   sl:=λj t e=>by
    rw[bG]at e;by_cases h:i=j
    ·subst h;rw[ah rfl]at e;split at e
     ·cases e;trivial
     ·cases e
    ·rw[ai h]at e;exact R.sl j t e
   ap:=λj k t u b hjk ej ek tj tk vj vk=>R.ap j k t u b hjk (gen ej tj).2 (gen ek tk).2 tj tk vj vk }
  refine⟨_,rM h1,k a xs _ _ (oW.refl _) R' h2 h3 h4 (λj t ej to z=>?_) h5⟩;obtain⟨nj,ej'⟩:=gen ej to;exact R.ap j i t _ a nj ej' e0 to rfl z h1
 ·cases e
end
def spM(G:Bg)(g:List D->List D->Option (D×List D)):Sp:=λvs H Q _=>∃(a:Addr) (us xs:List V) (H0:Hp) (es ds:List D) (d:D) (es':List D),vs=.ref a::us/\H a=some (.lst xs)/\H0 a=none/\oW H0 H/\oN G H0 es xs/\oN G H0 ds us/\g es ds=some (d,es')/\
 ∀v xs' H0' H',oW H0 H0'->oW H0' H'->(∀b o,H b=some o->b≠a->H' b=some o)->(∀b o,H0' b=some o->H0 b=some o\/H b=none)->H0' a=none->H' a=some (.lst xs')->oN G H0' es' xs'->Rep G H0' d v->Q v H'
def stM(n:Nat)(es ds:List D):List Sl:=.pm es::stE (n - 1) ds
def xE(ρ:List Sl):Option (List D):=match ρ with
 |.pm es::_=>some es
 |_=>none
def fnM(np n:Nat)(f:FS):List D->List D->Option (D×List D):=λes ds=>if ds.length=np then match f (stM n es ds)with
 |some (.rt d ρ)=>match xE ρ with
  |some es'=>some (d,es')
  |none=>none
 |some (.rn xs ρ)=>match xE ρ with
  |some es'=>some (.lst xs,es')
  |none=>none
 |_=>none
 else none
theorem zO{es:List D}(h:xE ρ=some es):ρ[0]?=some (.pm es):=by
 unfold xE at h;split at h
 ·cases h;rfl
 ·cases h
variable{es':List D}
theorem CL{n:Nat}{f:FS}{es:List D}{d:D}(h:fnM np n f es ds=some (d,es')):ds.length=np/\((∃ρ,f (stM n es ds)=some (.rt d ρ)/\ρ[0]?=some (.pm es'))\/∃xs ρ,f (stM n es ds)=some (.rn xs ρ)/\ρ[0]?=some (.pm es')/\d=.lst xs):=by
 unfold fnM at h;split at h
 ·rename_i hl;refine⟨hl,?_⟩;split at h
  ·rename_i x ρ e;cases e2:xE ρ with
   |none=>simp only[e2]at h;cases h
   |some q=>simp only[e2]at h;cases h;exact .inl ⟨ρ,e,zO e2⟩
  ·rename_i x ρ e;cases e2:xE ρ with
   |none=>simp only[e2]at h;cases h
   |some q=>simp only[e2]at h;cases h;exact .inr ⟨x,ρ,e,zO e2,rfl⟩
  ·cases h
 ·cases h
section
variable{X:Cx}{G:Bg}
theorem KD{f:FS}{H:Hp}{Q:VK}(hN:np+1<=N.length)(h:spM G (fnM np N.length f) vs H Q E):tFS G f { nx:=λ_ H'=>Q .non H',rt:=Q } (L2.start N vs) H:=by
 obtain⟨a,us,xs,H0,es,ds,d,es',rfl,ha,h0,s,r1,r,e,k⟩:=h;obtain⟨hl,e1⟩:=CL e;have hul:us.length=np:=by rw[<-oM r];exact hl
 have gets:∀{i:Nat} {t:Sl},(stM N.length es ds)[i]?=some t->(i=0/\t=.pm es)\/t=.un\/∃(j:Nat) (d:D),i=j+1/\ds[j]?=some d/\t=.im d:=λ{i t} e=>by
  cases i with
  |zero=>cases e;exact .inl ⟨rfl,rfl⟩
  |succ j=>
   have e':(stE (N.length - 1) ds)[j]?=some t:=e;rcases xD e' with rfl|⟨d,e1,rfl⟩
   ·exact .inr (.inl rfl)
   ·exact .inr (.inr ⟨j,d,rfl,e1,rfl⟩)
 have R:o8 G ⟨H0,H,[a]⟩ (L2.start N (.ref a::us)) (stM N.length es ds) H0 H:={
  sub:=s
  g0:=oW.refl _
  keep:=λb o e _=>e
  fr:=λb o e=>.inl e
  am:=λb hb=>by
   have eb:b=a:=by simpa using hb
   subst eb;exact⟨_,ha⟩
  len:=by unfold L2.start stM stE;simp only[au,ag,b8,aA];have:=oM r;omega
  sl:=λi t e=>by
   rcases gets e with ⟨rfl,rfl⟩|rfl|⟨j,d,rfl,e1,rfl⟩
   ·exact⟨a,xs,sd rfl,ha,h0,by simp,r1⟩
   ·trivial
   ·obtain⟨v,e2,e3⟩:=sA r e1;exact⟨v,sd (by simpa using e2),e3⟩
  ap:=λi j t u b hij ei ej ht hu=>by
   rcases gets ei with ⟨rfl,rfl⟩|rfl|⟨_,_,_,_,rfl⟩
   ·rcases gets ej with ⟨rfl,rfl⟩|rfl|⟨_,_,_,_,rfl⟩
    ·exact ao rfl hij
    ·cases hu
    ·cases hu
   ·cases ht
   ·cases ht }
 have fin:∀{v:V} {σ':St} {ρ':List Sl} {H0' H':Hp},oW H0 H0'->o8 G ⟨H0,H,[a]⟩ σ' ρ' H0' H'->ρ'[0]?=some (.pm es')->Rep G H0' d v->Q v H':=λs' R' e2 rv=>by
  obtain⟨a',ys,q1,q2,q3,q4,q5⟩:=R'.sl 0 _ e2;have ea:a'=a:=by simpa using q4
  subst ea;exact k _ ys _ _ s' R'.sub (λb o e n=>R'.keep b o e (by simpa using n)) R'.fr q3 q2 q5 rv
 rcases e1 with ⟨ρ,e1,e2⟩|⟨zs,ρ,e1,e2,rfl⟩
 ·exact⟨_,_,H0,_,R,e1,λv σ' H0' H' s' R' rv=>fin s' R' e2 rv,λ_=>rfl⟩
 ·refine⟨_,_,H0,_,R,e1,λp ys σ' H0' H' s' R' hp hp0 hb ap rs=>?_,λ_=>rfl⟩;exact fin (s'.trans (o6 hp0 _)) (R'.freeze hp hp0 hb ap) e2 (uZ oZ (oN.mono (o6 hp0 _) _ _ rs))
theorem QY{g:List D->List D->Option (D×List D)}(hg:∀es ds d,g es ds=some d->ds.length=np):∀vs H Q E,spM G g vs H Q E->vs.length=np+1:=λvs H Q E h=>by obtain⟨a,us,xs,H0,es,ds,d,es',rfl,_,_,_,_,r,e,_⟩:=h;rw[aA,<- oM r,hg _ _ _ e]
theorem KE{n:Nat}{f:FS}:∀es ds d,fnM np n f es ds=some d->ds.length=np:=λ_ _ d h=>(CL (d:=d.1) (es':=d.2) h).1
theorem o8.call1{H:Hp}(R:o8 G F σ ρ H0 H){s:Sl}{es:List D}{b:Addr}{zs:List V}(hi:ρ[i]?=some s)(hs:s.L=some es)(hb:(σ[i]?).join=some (.ref b))
  (s1:oW H0 H0') (s2:oW H0' H') (s3:∀c o,H c=some o->c≠b->H' c=some o) (fr:∀c o,H0' c=some o->H0 c=some o\/H c=none) (h0:H0' b=none) (hz:H' b=some (.lst zs)) (r:oN G H0' es' zs):
  o8 G F σ (ρ.set i (s.putL es')) H0' H':=by
 have so:=Sl.L_own hs;obtain⟨b',u,e1,e2,e3,e4⟩:=(R.sl i s hi).at so;rw[hb]at e1;cases e1;exact {
  sub:=s2
  g0:=R.g0.trans s1
  keep:=λc o e n=>by
   refine s3 c o (R.keep c o e n) λz=>?_;subst z;rcases e4 with q|q
   ·rw[q]at e;cases e
   ·exact n q
  fr:=λc o e=>by
   rcases fr c o e with q|q
   ·exact R.fr c o q
   ·exact .inr (R.bNone q)
  am:=λc hc=>by
   by_cases z:c=b
   ·subst z;exact⟨_,hz⟩
   ·obtain⟨o,q⟩:=R.am c hc;exact⟨o,s3 c o q z⟩
  len:=by rw[c7];exact R.len
  sl:=λj t e=>by
   rw[bG]at e;by_cases h:i=j
   ·subst h;rw[ah rfl]at e;split at e
    ·cases e;rw[hb];have ok:=R.sl i s hi;rw[hb]at ok;cases s with
     |ls ds0=>obtain⟨c,xs,h1,h2,h3,h4,h5⟩:=ok;cases h1;exact⟨b,zs,rfl,hz,h0,h4,r⟩
     |pm ds0=>obtain⟨c,xs,h1,h2,h3,h4,h5⟩:=ok;cases h1;exact⟨b,zs,rfl,hz,h0,h4,r⟩
     |_=>cases hs
    ·cases e
   ·rw[ai h]at e;refine(R.sl j t e).grow s1 (λc w z to q=>s3 c w q λy=>?_) λc w z to q q0=>?_
    ·subst y;exact R.ap j i t s c (λy=>h y.symm) e hi to so z hb
    ·cases y:H0' c with
     |none=>rfl
     |some o=>
      rcases fr c o y with x|x
      ·rw[x]at q0;cases q0
      ·rw[x]at q;cases q
  ap:=λj k t u c hjk ej ek tj tk vj vk=>by
   have gen:∀{m:Nat} {x:Sl},(ρ.set i (s.putL es'))[m]?=some x->∃y,ρ[m]?=some y/\(x.own=true->y.own=true):=λ{m x} e=>by
    rw[bG]at e;by_cases h:i=m
    ·subst h;exact⟨s,hi,λ_=>so⟩
    ·rw[ai h]at e;exact⟨x,e,λq=>q⟩
   obtain⟨y,ey,oy⟩:=gen ej;obtain⟨z,ez,oz⟩:=gen ek;exact R.ap j k y z c hjk ey ez (oy tj) (oz tk) vj vk }
def pJ(g:List D->List D->Option (D×List D))(i:Nat)(a:FA):FE:=λρ=>match qL ρ i with
 |some _=>match a ρ with
  |some (ds,ρ1)=>match qL ρ1 i with
   |some es=>match g es ds with
    |some (d,es')=>some (d,putAt ρ1 i es')
    |none=>none
   |none=>none
  |none=>none
 |none=>none
theorem NF{g:List D->List D->Option (D×List D)}{a:FA}(h:PE X e (wN (spM G g) [] E (zv (vH i) (tFA G a)))):PE X e (tF G (pJ g i a)):=PE.weak h λσ H Q hh=>by
 obtain⟨F,ρ,H0,d,ρ',R,e,k⟩:=hh;unfold pJ at e;cases e0:qL ρ i with
 |none=>simp only[e0]at e;cases e
 |some ds0=>
  simp only[e0]at e;rcases o9 (f:=a) (ρ:=ρ)with e1|⟨ds,ρ1,e1⟩<;>simp only[e1]at e
  ·cases e
  ·cases e2:qL ρ1 i with
   |none=>simp only[e2]at e;cases e
   |some es=>
    simp only[e2]at e;cases e3:g es ds with
    |none=>simp only[e3]at e;cases e
    |some q=>
     obtain⟨d1,es'⟩:=q;simp only[e3]at e;cases e;obtain⟨b,xs,s1,s2,s3,_⟩:=sD R e0;refine⟨.ref b,s1,F,ρ,H0,ds,ρ1,R,e1,λys H1 H1' s R' rs=>?_⟩;obtain⟨s,es0,es1⟩:=se e2;obtain⟨b',xs',t1,t2,t3,t4⟩:=(R'.sl i s es0).lst es1;rw[rM t1]at s1;cases s1;refine⟨b,ys,xs',H1,es,ds,d,es',?_,t2,t3,R'.sub,t4,rs,e3,λv zs H2 H2' u1 u2 u3 fr w0 w1 w2 w3=>?_⟩
     ·show V.ref b::ys++[]=_;rw[bH]
     ·refine k _ _ _ (oW.trans ‹oW H0 H1› u1) ?_ w3;unfold putAt;rw[es0];exact R'.call1 es0 es1 t1 u1 u2 u3 fr w0 w1 w2
def Walk(G:Bg)(J:It)(ds:List D)(H0:Hp):Prop:=∀(i:Nat) (H1 H1':Hp),oW H0 H1->oW H1 H1'->
 (∀d,ds[i]?=some d->J.go i H1'/\∀x H2',J.yld i H1' x H2'->∃H2,oW H1 H2/\oW H2 H2'/\oW H1' H2'/\(∀b o,H2 b=some o->H1 b=some o\/H1' b=none)/\Rep G H2 d x)/\(i=ds.length->J.stop i H1')
def tFI(G:Bg)(f:FA):TI:=λσ H R=>∃F ρ H0 ds ρ',o8 G F σ ρ H0 H/\f ρ=some (ds,ρ')/\∀J H0' H',oW H0 H0'->o8 G F σ ρ' H0' H'->Walk G J ds H0'->R J H'
theorem PI.weak{t t':TI}(h:PI X tg e t)(w:∀σ H R,t' σ H R->t σ H R):PI X tg e t':=λpins s σ H R I hq=>h pins s σ H R I (w _ _ _ hq)
theorem zP(h:SqL G.K H0 a xs)(r:oN G H0 ds xs):Walk G (Itl G.K a) ds H0:=λi H1 H1' s s'=>by have h1:SqL G.K H1' a xs:=(s.trans s').seq h;refine⟨λd e=>?_,λhl=>⟨xs,h1,by rw[<-oM r,hl];exact aC _⟩⟩;obtain⟨v,e1,e2⟩:=sA r e;refine⟨⟨xs,v,h1,e1⟩,λx H2' y=>?_⟩;obtain⟨e3,e4⟩:=y;have e5:=e4 xs h1;rw[e1]at e5;cases e5;subst e3;exact⟨H1,oW.refl _,s',oW.refl _,λb o e=>.inl e,Rep.mono s _ _ e2⟩
theorem HE(h:SqT G.K H0 a xs)(r:oN G H0 ds xs):Walk G (Itt G.K a) ds H0:=λi H1 H1' s s'=>by have h1:SqT G.K H1' a xs:=SqT.mono (s.trans s') h;refine⟨λd e=>?_,λhl=>⟨xs,h1,by rw[<-oM r,hl];exact aC _⟩⟩;obtain⟨v,e1,e2⟩:=sA r e;refine⟨⟨xs,v,h1,e1⟩,λx H2' y=>?_⟩;obtain⟨e3,e4⟩:=y;have e5:=e4 xs h1;rw[e1]at e5;cases e5;subst e3;exact⟨H1,oW.refl _,s',oW.refl _,λb o e=>.inl e,Rep.mono s _ _ e2⟩
def iL(f:FE):FA:=λρ=>match f ρ with
 |some (.lst ds,ρ')=>some (ds,ρ')
 |some (.fzl ds,ρ')=>some (ds,ρ')
 |_=>none
def iT(f:FE):FA:=λρ=>match f ρ with
 |some (.tup ds,ρ')=>some (ds,ρ')
 |_=>none
theorem CM(h:PI X tg e (GE G.K (tF G f))):PI X tg e (tFI G (iL f)):=PI.weak h λσ H R hh=>by
 obtain⟨F,ρ,H0,ds,ρ',R,e,k⟩:=hh;unfold iL at e;split at e
 ·rename_i ds' ρ1 e1;cases e;refine⟨F,ρ,H0,_,_,R,e1,λv H1 H1' s R' r=>?_⟩;unfold Rep at r;obtain⟨a,xs,rfl,r1,r2⟩:=r;exact⟨a,rfl,⟨xs,R'.sub.seq (SqL.of r1)⟩,k _ _ _ s R' (zP (SqL.of r1) r2)⟩
 ·rename_i ds' ρ1 e1;cases e;refine⟨F,ρ,H0,_,_,R,e1,λv H1 H1' s R' r=>?_⟩;unfold Rep at r;obtain⟨a,xs,rfl,r1,r2⟩:=r;exact⟨a,rfl,⟨xs,R'.sub.seq r1⟩,k _ _ _ s R' (zP r1 r2)⟩
 ·cases e
theorem KF(h:PI X tg e (MU G.K (tF G f))):PI X tg e (tFI G (iT f)):=PI.weak h λσ H R hh=>by
 obtain⟨F,ρ,H0,ds,ρ',R,e,k⟩:=hh;unfold iT at e;split at e
 ·rename_i ds' ρ1 e1;cases e;refine⟨F,ρ,H0,_,_,R,e1,λv H1 H1' s R' r=>?_⟩;unfold Rep at r;obtain⟨a,xs,rfl,r1,r2⟩:=r;exact⟨a,rfl,⟨xs,SqT.mono R'.sub r1⟩,k _ _ _ s R' (HE r1 r2)⟩
 ·cases e
def wJ(lo:Int)(n:Nat):List D:=(aT n).map λ(i:Nat)=>D.int (lo+(i:Int))
theorem HF{lo:Int}{n:Nat}:Walk G (Itr lo n) (wJ lo n) H0:=λi H1 H1' s s'=>by
 refine⟨λd e=>?_,λhl=>by show n<=i;rw[hl];simp[wJ]⟩;unfold wJ at e;rw[aY]at e;by_cases hi:i<n
 ·rw[iy hi]at e;cases e;refine⟨hi,λx H2' y=>?_⟩;obtain⟨e3,rfl⟩:=y;subst e3;exact⟨H1,oW.refl _,s',oW.refl _,λb o e=>.inl e,qo _⟩
 ·rw[eZ (by simpa using hi)]at e;cases e
def iR1(f:FE):FA:=λρ=>match f ρ with
 |some (.int n,ρ')=>if -1000000<=n/\n<=1000000 then some (wJ 0 n.toNat,ρ')else none
 |_=>none
theorem DM(h:PI X tg e (LV (tFA G (aCons f pC)))):PI X tg e (tFI G (iR1 f)):=PI.weak h λσ H R hh=>by
 obtain⟨F,ρ,H0,ds,ρ',R,e,k⟩:=hh;unfold iR1 at e;split at e
 ·rename_i n ρ1 e1;split at e
  ·rename_i hn;cases e;refine⟨F,ρ,H0,[.int n],_,R,by unfold aCons;rw[e1];rfl,λxs H1 H1' s R' rs=>?_⟩;unfold oN at rs;obtain⟨v,r0,rfl,rv,rn⟩:=rs;unfold oN at rn;unfold Rep at rv;subst rn rv;exact⟨n,rfl,by omega,by omega,k _ _ _ s R' HF⟩
  ·cases e
 ·cases e
def forL(g:FG)(b:FS):List D->FS
 |[],ρ=>some (.nx ρ)
 |d::r,ρ=>match g d ρ with
  |none=>none
  |some ρ1=>match b ρ1 with
   |some (.nx ρ2)=>forL g b r ρ2
   |some (.ct ρ2)=>forL g b r ρ2
   |some (.bk ρ2)=>some (.nx ρ2)
   |some (.rt d ρ2)=>some (.rt d ρ2)
   |some (.rn d ρ2)=>some (.rn d ρ2)
   |none=>none
def q9(s:FA)(g:FG)(b:FS):FS:=λρ=>match s ρ with
 |some (ds,ρ')=>forL g b ds ρ'
 |none=>none
theorem KG{st:Stmt}{n:Nat}{s:FA}{g:FG}{b:FS}(h:PS X st (MW (tFI G s) (tFG G n g) (tFS G b))):PS X st (tFS G (q9 s g b)):=PS.weak h λE σ H hh=>by
 obtain⟨F,ρ,H0,o,R,e,k,k2⟩:=hh;unfold q9 at e;rcases o9 (f:=s) (ρ:=ρ)with e1|⟨ds,ρ1,e1⟩<;>simp only[e1]at e
 ·cases e
 ·refine⟨F,ρ,H0,ds,ρ1,R,e1,λJ H1 H1' s1 R1 wk=>?_⟩;refine⟨λi m σ H=>m=ds.length - i/\i<=ds.length/\∃ρi Hi,oW H1 Hi/\o8 G F σ ρi Hi H/\forL g b (ds.drop i) ρi=some o,⟨_,rfl,cb _,ρ1,H1,oW.refl _,R1,e⟩,?_⟩;rintro i m σi Hi' ⟨rfl,hi,ρi,Hi,si,Ri,ei⟩;by_cases hlt:i<ds.length
  ·have ed:ds.drop i=ds[i]::ds.drop (i+1):=ie hlt;rw[ed]at ei;unfold forL at ei;obtain⟨go,yl⟩:=(wk i Hi Hi' si Ri.sub).1 ds[i] (aQ hlt);refine .inr ⟨go,λσ' H'=>∃ρi Hi,oW H1 Hi/\o8 G F σ' ρi Hi H'/\forL g b (ds.drop (i+1)) ρi=some o,λσ' H' q=>⟨ds.length - (i+1),by omega,rfl,hlt,q⟩,λx H' y=>?_⟩;obtain⟨H2,t1,t2,t3,t4,t5⟩:=yl x H' y;have R2:=Ri.grow t3 t1 t2 t4;cases e2:g ds[i] ρi with
   |none=>simp only[e2]at ei;cases ei
   |some ρ2=>
    simp only[e2]at ei;refine⟨F,ρi,H2,_,ρ2,R2,t5,e2,λσ3 _ R3=>?_⟩;have kk:=k.back (s1.trans (si.trans t1));cases e3:b ρ2 with
    |none=>simp only[e3]at ei;cases ei
    |some q=>
     refine⟨F,ρ2,H2,q,R3,e3,?_,λ_=>rfl⟩;cases q with
     |nx ρ3=>simp only[e3]at ei;exact λσ' H0' H' s' R'=>⟨ρ3,H0',si.trans (t1.trans s'),R',ei⟩
     |ct ρ3=>simp only[e3]at ei;exact λσ' H0' H' s' R'=>⟨ρ3,H0',si.trans (t1.trans s'),R',ei⟩
     |bk ρ3=>simp only[e3]at ei;cases ei;exact kk
     |rt d ρ3=>simp only[e3]at ei;cases ei;exact kk
     |rn d ρ3=>simp only[e3]at ei;cases ei;exact kk
  ·have ez:ds.drop i=[]:=jV (by omega);rw[ez]at ei;unfold forL at ei;cases ei;exact .inl ⟨(wk i Hi Hi' si Ri.sub).2 (by omega),k _ _ _ (s1.trans si) Ri⟩
end
def Sl.cap:Sl->Sl
 |.im d=>.im d
 |.ls ds=>.pm ds
 |.pm ds=>.pm ds
 |_=>.un
def yp(k:Nat)(cap:List Nat)(ρ:List Sl):List Sl:=gA k .un++cap.map λj=>((ρ[j]?).getD .un).cap
def rN:List Nat->List Sl->List Sl->Option (List Sl)
 |[],_,ρ=>some ρ
 |j::cap,t::ts,ρ=>match qL ρ j with
  |some _=>match t with
   |.pm ds=>rN cap ts (putAt ρ j ds)
   |_=>none
  |none=>rN cap ts ρ
 |_::_,[],_=>none
def sE(k:Nat)(cap:List Nat)(g:FG)(ft:FT)(fe:FE):List D->List Sl->Option (List D×List Sl)
 |[],ρ=>some ([],ρ)
 |d::r,ρ=>match g d (yp k cap ρ)with
  |none=>none
  |some ρ1=>match ft ρ1 with
   |some (true,ρ2)=>match fe ρ2 with
    |some (x,ρ3)=>match rN cap (ρ3.drop k) ρ with
     |some ρ'=>match sE k cap g ft fe r ρ' with
      |some (xs,ρ'')=>some (x::xs,ρ'')
      |none=>none
     |none=>none
    |none=>none
   |some (false,ρ2)=>match rN cap (ρ2.drop k) ρ with
    |some ρ'=>sE k cap g ft fe r ρ'
    |none=>none
   |none=>none
def oT(k:Nat)(cap:List Nat)(s:FA)(g:FG)(ft:FT)(fe:FE):FA:=λρ=>match s ρ with
 |some (ds,ρ')=>if ds.length<=1000 then sE k cap g ft fe ds ρ' else none
 |none=>none
def pF:FT:=λρ=>some (true,ρ)
theorem u0:∀{cap:List Nat} {ts ρ ρ':List Sl},rN cap ts ρ=some ρ'->ρ'.length=ρ.length/\
  (∀(j:Nat) (s':Sl),ρ'[j]?=some s'->∃s,ρ[j]?=some s/\((s'=s/\(s.L≠none->j∉cap))\/∃(m:Nat) (ds ds0:List D),cap[m]?=some j/\ts[m]?=some (Sl.pm ds)/\s.L=some ds0/\s'=s.putL ds))
 |[],ts,ρ,ρ',h=>by cases h;exact⟨rfl,λj s' e=>⟨s',e,.inl ⟨rfl,λ_ z=>by cases z⟩⟩⟩
 |j0::cap,[],ρ,ρ',h=>by cases h
 |j0::cap,t::ts,ρ,ρ',h=>by
  unfold rN at h;cases e0:qL ρ j0 with
  |none=>
   simp only[e0]at h;obtain⟨h1,h2⟩:=u0 h;refine⟨h1,λj s' e=>?_⟩;obtain⟨s,e1,q⟩:=h2 j s' e;refine⟨s,e1,?_⟩;rcases q with ⟨rfl,q⟩|⟨m,ds,ds0,q1,q2,q3,q4⟩
   ·refine .inl ⟨rfl,λz y=>?_⟩;rcases aP.mp y with y|y
    ·subst y;unfold qL at e0;rw[e1]at e0;exact z e0
    ·exact q z y
   ·exact .inr ⟨m+1,ds,ds0,q1,q2,q3,q4⟩
  |some ds1=>
   simp only[e0]at h;cases t with
   |pm ds=>
    simp only at h;obtain⟨s0,e1,e2⟩:=se e0;unfold putAt at h;rw[e1]at h;simp only at h;obtain⟨h1,h2⟩:=u0 h;refine⟨by rw[h1,c7],λj s' e=>?_⟩;obtain⟨s,e3,q⟩:=h2 j s' e;by_cases hj:j0=j
    ·subst hj;rw[bG,ah rfl]at e3;split at e3
     ·cases e3;refine⟨s0,e1,.inr ?_⟩;rcases q with ⟨rfl,q⟩|⟨m,ds',ds0,q1,q2,q3,q4⟩
      ·exact⟨0,ds,ds1,rfl,rfl,e2,rfl⟩
      ·refine⟨m+1,ds',ds1,q1,q2,e2,?_⟩;rw[q4];cases s0<;>rfl
     ·cases e3
    ·rw[bG,ai hj]at e3;refine⟨s,e3,?_⟩;rcases q with ⟨rfl,q⟩|⟨m,ds',ds0,q1,q2,q3,q4⟩
     ·refine .inl ⟨rfl,λz y=>?_⟩;rcases aP.mp y with y|y
      ·exact hj y.symm
      ·exact q z y
     ·exact .inr ⟨m+1,ds',ds0,q1,q2,q3,q4⟩
   |_=>cases h
def AJ(cap:List Nat)(σ:St)(ρ:List Sl):List Addr:=cap.filterMap λj=>match qL ρ j,(σ[j]?).join with
 |some _,some (.ref a)=>some a
 |_,_=>none
theorem vN{cap:List Nat}:a∈AJ cap σ ρ ↔ ∃j∈cap,(∃ds,qL ρ j=some ds)/\(σ[j]?).join=some (.ref a):=by
 unfold AJ;rw[dR];constructor
 ·rintro⟨j,hj,e⟩;refine⟨j,hj,?_⟩;split at e
  ·rename_i ds a' e1 e2;cases e;exact⟨⟨ds,e1⟩,e2⟩
  ·cases e
 ·rintro⟨j,hj,⟨ds,e1⟩,e2⟩;refine⟨j,hj,?_⟩;rw[e1,e2]
variable{H1':Hp}{ft:FT}{fe:FE}
section
variable{X:Cx}{G:Bg}{F:Fr}{σ:St}{ρ:List Sl}{H0 H:Hp}
theorem zQ{k:Nat}{cap:List Nat}{s:Sl}(h:(yp k cap ρ)[i]?=some s):s=.un\/∃m j,i=k+m/\cap[m]?=some j/\s=((ρ[j]?).getD .un).cap:=by
 unfold yp at h;by_cases hi:i<k
 ·rw[cY (by simpa using hi),f7,ah hi]at h;cases h;exact .inl rfl
 ·rw[dr (by simpa using kW hi),b8,aY]at h;cases e:cap[i - k]? with
  |none=>rw[e]at h;cases h
  |some j=>rw[e]at h;cases h;exact .inr ⟨i - k,j,by omega,e,rfl⟩
theorem xF{k:Nat}{cap:List Nat}{m:Nat}(h:cap[m]?=some j):((rL k cap σ)[k+m]?).join=(σ[j]?).join:=by unfold rL;rw[dr (by simp),b8,show k+m - k=m by omega,aY,h];rfl
theorem o8.cap(R:o8 G F σ ρ H0 H)(k:Nat)(cap:List Nat)(nd:cap.Nodup):o8 G ⟨H0,H,AJ cap σ ρ⟩ (rL k cap σ) (yp k cap ρ) H0 H where
 sub:=R.sub
 g0:=oW.refl _
 keep:=λb o e _=>e
 fr:=λb o e=>.inl e
 am:=λa ha=>by obtain⟨j,hj,⟨ds,e1⟩,e2⟩:=vN.mp ha;obtain⟨s,e3,e4⟩:=se e1;obtain⟨a',xs,h1,h2,_⟩:=(R.sl j s e3).lst e4;rw[e2]at h1;cases h1;exact⟨_,h2⟩
 len:=by unfold rL yp;rw[au,au,b8,b8,ag,ag]
 sl:=λi s e=>by
  rcases zQ e with rfl|⟨m,j,rfl,e1,rfl⟩
  ·trivial
  ·rw[xF e1];cases e2:ρ[j]? with
   |none=>trivial
   |some s=>
    have ok:=R.sl j s e2;have mem:∀{a:Addr} {ds:List D},s.L=some ds->(σ[j]?).join=some (.ref a)->a∈AJ cap σ ρ:=λh1 h2=>vN.mpr ⟨j,bF e1,⟨_,by unfold qL;rw[e2];exact h1⟩,h2⟩;cases s with
    |un=>trivial
    |im d=>exact ok
    |ls ds=>obtain⟨a,xs,h1,h2,h3,h4,h5⟩:=ok;exact⟨a,xs,h1,h2,h3,mem rfl h1,h5⟩
    |pm ds=>obtain⟨a,xs,h1,h2,h3,h4,h5⟩:=ok;exact⟨a,xs,h1,h2,h3,mem rfl h1,h5⟩
    |dk ks ds=>trivial
    |ob c ns ds=>trivial
 ap:=λi i' s t a hii e e' so to v v'=>by
  rcases zQ e with rfl|⟨m,j,rfl,e1,rfl⟩
  ·cases so
  rcases zQ e' with rfl|⟨m',j',rfl,e1',rfl⟩
  ·cases to
  rw[xF e1]at v;rw[xF e1']at v';have own:∀{j:Nat},(((ρ[j]?).getD Sl.un).cap).own=true->∃s,ρ[j]?=some s/\s.own=true:=λ{j} h=>by
   cases z:ρ[j]? with
   |none=>rw[z]at h;cases h
   |some s=>rw[z]at h;refine⟨s,rfl,?_⟩;cases s<;>first|rfl|cases h
  obtain⟨s,z,zo⟩:=own so;obtain⟨s',z',zo'⟩:=own to;by_cases hj:j=j'
  ·subst hj;have:m=m':=(List.getElem?_inj (br.mp e1).1 nd).mp (e1.trans e1'.symm);exact hii (by rw[this])
  ·exact R.ap j j' s s' a hj z z' zo zo' v v'
theorem o8.uncap(R:o8 G F σ ρ H0 H){k:Nat}{cap:List Nat}{σ4:St}{ρ4:List Sl}(R4:o8 G ⟨H0,H,AJ cap σ ρ⟩ σ4 ρ4 H1 H1')(hd:σ4.drop k=(rL k cap σ).drop k)(hu:rN cap (ρ4.drop k) ρ=some ρ'):o8 G F σ ρ' H1 H1':=by
 obtain⟨hl,hc⟩:=u0 hu;have at4:∀{m j:Nat},cap[m]?=some j->(σ4[k+m]?).join=(σ[j]?).join:=λ{m j} e=>by
  have q:(σ4.drop k)[m]?=((rL k cap σ).drop k)[m]?:=by rw[hd]
  rw[c4,c4]at q;rw[q];exact xF e
 have nA:∀{j:Nat} {s:Sl} {a:Addr},ρ[j]?=some s->s.own=true->(σ[j]?).join=some (.ref a)->(s.L≠none->j∉cap)->a∉AJ cap σ ρ:=λ{j s a} e so z hn ha=>by
  obtain⟨i,hi,⟨ds,e1⟩,e2⟩:=vN.mp ha;obtain⟨t,e3,e4⟩:=se e1;by_cases hij:i=j
  ·subst hij;rw[e]at e3;cases e3;exact hn (by rw[e4];simp) hi
  ·exact R.ap i j t s a hij e3 e (Sl.L_own e4) so e2 z
 have hA:∀a∈AJ cap σ ρ,F.B a=none\/a∈F.A:=λa ha=>by obtain⟨i,hi,⟨ds,e1⟩,e2⟩:=vN.mp ha;obtain⟨t,e3,e4⟩:=se e1;obtain⟨a',u,h1,h2,h3,h4⟩:=(R.sl i t e3).at (Sl.L_own e4);rw[e2]at h1;cases h1;exact h4
 have own':∀{j:Nat} {s':Sl},ρ'[j]?=some s'->s'.own=true->∃s,ρ[j]?=some s/\s.own=true:=λ{j s'} e so=>by
  obtain⟨s,e1,q⟩:=hc j s' e;rcases q with ⟨rfl,q⟩|⟨m,ds,ds0,q1,q2,q3,q4⟩
  ·exact⟨s',e1,so⟩
  ·exact⟨s,e1,Sl.L_own q3⟩
 exact {
  sub:=R4.sub
  g0:=R.g0.trans R4.g0
  keep:=λb o e n=>by
   refine R4.keep b o (R.keep b o e n) λha=>?_;rcases hA b ha with q|q
   ·rw[q]at e;cases e
   ·exact n q
  fr:=λb o e=>by
   rcases R4.fr b o e with q|q
   ·exact R.fr b o q
   ·exact .inr (R.bNone q)
  am:=λa ha=>by
   obtain⟨o,q⟩:=R.am a ha;by_cases z:a∈AJ cap σ ρ
   ·exact R4.am a z
   ·exact⟨o,R4.keep a o q z⟩
  len:=by rw[hl];exact R.len
  sl:=λj s' e=>by
   obtain⟨s,e1,q⟩:=hc j s' e;rcases q with ⟨rfl,q⟩|⟨m,ds,ds0,q1,q2,q3,q4⟩
   ·refine(R.sl j s' e1).grow R4.g0 (λa u z so y=>R4.keep a u y (nA e1 so z q)) λa u z so y y0=>?_;cases w:H1 a with
    |none=>rfl
    |some o=>
     rcases R4.fr a o w with x|x
     ·have x':H0 a=some o:=x;rw[x']at y0;cases y0
     ·have x':H a=none:=x;rw[x']at y;cases y
   ·rw[c4]at q2;obtain⟨a,xs,h1,h2,h3,h4,h5⟩:=R4.sl _ _ q2;rw[at4 q1]at h1;have ok:=R.sl j s e1;subst q4;cases s with
    |ls ds1=>obtain⟨a',xs',g1,g2,g3,g4,g5⟩:=ok;rw[h1]at g1;cases g1;exact⟨a,xs,h1,h2,h3,g4,h5⟩
    |pm ds1=>obtain⟨a',xs',g1,g2,g3,g4,g5⟩:=ok;rw[h1]at g1;cases g1;exact⟨a,xs,h1,h2,h3,g4,h5⟩
    |_=>cases q3
  ap:=λi j s t a hij ei ej so to v v'=>by
   obtain⟨s0,z,zo⟩:=own' ei so;obtain⟨t0,y,yo⟩:=own' ej to;exact R.ap i j s0 t0 a hij z y zo yo v v' }
theorem vO{k:Nat}{cap:List Nat}{ts:List Sl}(h:Apart σ ρ p)(hu:rN cap ts ρ=some ρ'):Apart σ ρ' p:=λi s' e so=>by
 obtain⟨s,e1,q⟩:=(u0 hu).2 i s' e;rcases q with ⟨rfl,q⟩|⟨m,ds,ds0,q1,q2,q3,q4⟩
 ·exact h i s' e1 so
 ·exact h i s e1 (Sl.L_own q3)
inductive CI(G:Bg) (F:Fr) (σ:St) (H1:Hp) (p:Addr) (k:Nat) (cap:List Nat) (g:FG) (ft:FT) (fe:FE) (ds es:List D) (ρ':List Sl) (i m:Nat) (acc:List V) (H2:Hp):Prop
 |mk (ρi:List Sl) (Hi:Hp) (dn rest:List D):m=ds.length - i->i<=ds.length->oW H1 Hi->o8 G F σ ρi Hi H2->H2 p=some (.lst acc)->Hi p=none->Apart σ ρi p->oN G Hi dn acc->dn.length<=i->sE k cap g ft fe (ds.drop i) ρi=some (rest,ρ')->es=dn++rest->CI G F σ H1 p k cap g ft fe ds es ρ' i m acc H2
theorem EF{k:Nat}{cap:List Nat}{s:FA}{g:FG}(nd:cap.Nodup):∀σ H Q,tFN G (oT k cap s g ft fe) σ H Q->zH (tFI G s) (tFG G k g) (tFT G ft) (tF G fe) k cap σ H Q:=λσ H Q hh=>by
 obtain⟨F,ρ,H0,es,ρ',R,e,kk⟩:=hh;unfold oT at e;rcases o9 (f:=s) (ρ:=ρ)with e1|⟨ds,ρ1,e1⟩<;>simp only[e1]at e
 ·cases e
 ·split at e
  ·rename_i hlen;refine⟨F,ρ,H0,ds,ρ1,R,e1,λJ H1 H1' s1 R1 wk p hp=>?_⟩;refine⟨CI G F σ H1 p k cap g ft fe ds es ρ',
    ⟨_,ρ1,H1,[],es,rfl,cb _,oW.refl _,R1.newOwn hp _,oZ,R1.h0none hp,R1.apart hp,pB,aC _,e,rfl⟩,?_⟩
   rintro i m acc H2 ⟨ρi,Hi,dn,rest,rfl,hi,si,Ri,hp2,hp0,apt,rs,hdn,ei,rfl⟩;by_cases hlt:i<ds.length
   ·have ed:ds.drop i=ds[i]::ds.drop (i+1):=ie hlt;rw[ed]at ei;unfold sE at ei;obtain⟨go,yl⟩:=(wk i Hi H2 si Ri.sub).1 ds[i] (aQ hlt);refine .inr ⟨go,λx H3 y=>?_⟩;obtain⟨Hj,t1,t2,t3,t4,t5⟩:=yl x H3 y;have R2:=Ri.grow t3 t1 t2 t4;have hp3:H3 p=some (.lst acc):=t3 _ _ hp2;have hpj:Hj p=none:=by
     cases w:Hj p with
     |none=>rfl
     |some o=>
      rcases t4 p o w with z|z
      ·rw[hp0]at z;cases z
      ·rw[hp2]at z;cases z
    have RC:=R2.cap k cap nd;have npA:p∉AJ cap σ ρi:=λz=>by obtain⟨j,_,⟨ds',q1⟩,q2⟩:=vN.mp z;obtain⟨t,q3,q4⟩:=se q1;exact apt j t q3 (Sl.L_own q4) q2
    cases e2:g ds[i] (yp k cap ρi)with
    |none=>simp only[e2]at ei;cases ei
    |some ρ2=>
     simp only[e2]at ei;refine⟨_,_,Hj,ds[i],ρ2,RC,t5,e2,λσ4 hd4 R4=>⟨hd4,?_⟩⟩;rcases o9 (f:=ft) (ρ:=ρ2)with e3|⟨b,ρ3,e3⟩
     ·simp only[e3]at ei;cases ei
     ·refine⟨_,ρ2,Hj,b,ρ3,R4,e3,λH5 H5' s5 R5=>?_⟩;have keepP:∀{σ':St} {ρ'':List Sl} {Ha Ha':Hp},o8 G ⟨Hj,H3,AJ cap σ ρi⟩ σ' ρ'' Ha Ha'->Ha' p=some (.lst acc)/\Ha p=none:=λRz=>by
       refine⟨Rz.keep p _ hp3 npA,?_⟩;refine Option.eq_none_iff_forall_ne_some.mpr λo w2=>?_;rcases Rz.fr p o w2 with z|z
       ·have z':Hj p=some o:=z;rw[hpj]at z';cases z'
       ·have z':H3 p=none:=z;rw[hp3]at z';cases z'
      cases b with
      |false=>
       simp only[e3]at ei;refine BK ?_;cases e4:rN cap (ρ3.drop k) ρi with
       |none=>simp only[e4]at ei;cases ei
       |some ρn=>simp only[e4]at ei;obtain⟨w1,w2⟩:=keepP R5;exact⟨ds.length - (i+1),by omega,ρn,H5,dn,rest,rfl,hlt,si.trans (t1.trans s5),R2.uncap R5 hd4 e4,w1,w2,vO (k:=k) apt e4,oN.mono (t1.trans s5) _ _ rs,by omega,ei,rfl⟩
      |true=>
       simp only[e3]at ei;refine BL ?_;rcases o9 (f:=fe) (ρ:=ρ3)with e5|⟨x5,ρ5,e5⟩
       ·simp only[e5]at ei;cases ei
       ·simp only[e5]at ei;refine⟨_,ρ3,H5,x5,ρ5,R5,e5,λv H6 H6' s6 R6 rv=>?_⟩;obtain⟨w1,w2⟩:=keepP R6;cases e4:rN cap (ρ5.drop k) ρi with
        |none=>simp only[e4]at ei;cases ei
        |some ρn=>
         simp only[e4]at ei;cases e6:sE k cap g ft fe (ds.drop (i+1)) ρn with
         |none=>simp only[e6]at ei;cases ei
         |some q=>
          obtain⟨rest',ρz⟩:=q;simp only[e6]at ei;cases ei;have Rn:=R2.uncap R6 hd4 e4;have lacc:acc.length=dn.length:=(oM rs).symm;refine⟨acc,w1,wq (by omega),ds.length - (i+1),by omega,ρn,H6,dn++[x5],rest',rfl,hlt,si.trans (t1.trans (s5.trans s6)),?_,oZ,w2,vO (k:=k) apt e4,qh (oN.mono (t1.trans (s5.trans s6)) _ _ rs) (pI rv pB),by rw[au,bf];omega,e6,by rw[bJ];rfl⟩;exact {
           sub:=λb o e=>by rw[o3 (λz=>by rw[z,w2]at e;cases e)];exact Rn.sub b o e
           g0:=Rn.g0
           keep:=λb o e n=>by rw[o3 (λz=>by subst z;rw[R1.bNone hp]at e;cases e)];exact Rn.keep b o e n
           fr:=Rn.fr
           am:=λb hb=>by
            by_cases z:b=p
            ·subst z;exact⟨_,oZ⟩
            ·rw[o3 z];exact Rn.am b hb
           len:=Rn.len
           sl:=λj t ej=>(Rn.sl j t ej).grow (oW.refl _) (λb u z to q=>by rw[o3 (λy=>vO (k:=k) apt e4 j t ej to (by rw[z,y]))];exact q) λb u _ _ _ q=>q
           ap:=Rn.ap }
   ·have ez:ds.drop i=[]:=jV (by omega);rw[ez]at ei;unfold sE at ei;cases ei;rw[bH]at kk;exact .inl ⟨(wk i Hi H2 si Ri.sub).2 (by omega),kk p acc Hi H2 (s1.trans si) Ri hp2 hp0 (R1.bNone hp) apt rs⟩
  ·cases e
theorem HG{k:Nat}{cap:List Nat}{s:FA}{g:FG}(nd:cap.Nodup)(h:PE X e (zH (tFI G s) (tFG G k g) (tFT G ft) (tF G fe) k cap)):PE X e (tFN G (oT k cap s g ft fe)):=PE.weak h (EF nd)
theorem HH:PIf X [] (tFT G pF):=λpins s σ H Q I h=>by obtain⟨F,ρ,H0,b,ρ',R,e,k⟩:=h;cases e;exact J3 pins s σ H Q I (k _ _ (oW.refl _) R)
end
def qE:D->Bool
 |.non=>true|.bl _=>true|.int _=>true|.str _=>true|_=>false
def vD:D->V
 |.non=>.non|.bl b=>.bl b|.int i=>.int i|.str x=>.str x|_=>.non
variable{r':R2}{g':D->D->Option D}{neg:Bool}{r:List V->Hp->VK->Prop}
section
variable{X:Cx}{G:Bg}{H:Hp}
theorem sF{d:D}{v:V}(h:Rep G H d v)(f:qE d=true):v=vD d:=by cases d<;>first|(unfold Rep at h;exact h)|cases f
theorem xG{d:D}(f:qE d=true):∀H,Rep G H d (vD d):=λH=>by cases d<;>first|(unfold Rep;rfl)|cases f
theorem yq:∀{ds:List D} {xs:List V},oN G H ds xs->ds.all qE=true->xs=ds.map vD
 |[],xs,h,f=>by unfold oN at h;exact h
 |d::ds,xs,h,f=>by unfold oN at h;obtain⟨v,r,rfl,h1,h2⟩:=h;rw[cq,aE]at f;rw[aF,sF h1 f.1,yq h2 f.2]
theorem CN{d:D}(f:qE d=true):wO (vD d)=true:=by cases d<;>first|rfl|cases f
theorem A0:∀{ds:List D},ds.all qE=true->(ds.map vD).all wO=true
 |[],_=>rfl
 |d::ds,f=>by rw[cq,aE]at f;rw[aF,cq,CN f.1,A0 f.2];rfl
theorem OpR.or{f:aa->aa->Sem aa}{r:R2}(h:OpR X f r)(h':OpR X f r'):OpR X f (λx y H Q=>r x y H Q\/r' x y H Q):=λpins s σ H x y v u Q I rx ry q=>q.elim (h pins s σ H x y v u Q I rx ry) (h' pins s σ H x y v u Q I rx ry)
theorem OpD.or{r:R2}{g:D->D->Option D}(h:OpD G r g)(h':OpD G r' g'):OpD G (λx y H Q=>r x y H Q\/r' x y H Q) (λx y=>match g x y with|some z=>some z|none=>g' x y):=λx y z H0 H v u Q e s rx ry k=>by
 cases e1:g x y with
 |some w=>simp only[e1]at e;cases e;exact .inl (h x y _ H0 H v u Q e1 s rx ry k)
 |none=>simp only[e1]at e;exact .inr (h' x y z H0 H v u Q e s rx ry k)
def dI(C:Int->Int->Bool)(g:Int->Int->D):D->D->Option D
 |.int a,.int b=>if C a b=true then some (g a b)else none
 |_,_=>none
theorem EG{C:Int->Int->Bool}{C':Int->Int->Prop}{g:Int->Int->D}{g':Int->Int->V}(hC:∀a b,C a b=true->C' a b)(hf:∀a b,qE (g a b)=true/\vD (g a b)=g' a b):OpD G (rI C' g') (dI C g):=λx y z H0 H v u Q e s rx ry k=>by
 unfold dI at e;split at e
 ·rename_i a b;split at e
  ·rename_i hc;cases e;unfold Rep at rx ry;exact⟨a,b,rx,ry,hC _ _ hc,by rw[<-(hf a b).2];exact k _ λH0' _=>xG (hf a b).1 H0'⟩
  ·cases e
 ·cases e
theorem zR{g:Int->Int->D}{g':Int->Int->V}(hf:∀a b,qE (g a b)=true/\vD (g a b)=g' a b):OpD G (rI0 g') (dI (λ_ _=>true) g):=λx y z H0 H v u Q e s rx ry k=>by
 unfold dI at e;split at e
 ·rename_i a b;split at e
  ·cases e;unfold Rep at rx ry;exact⟨a,b,rx,ry,by rw[<-(hf a b).2];exact k _ λH0' _=>xG (hf a b).1 H0'⟩
  ·cases e
 ·cases e
def qN:=dI (λ_ _=>true) λa b=>.int (a+b)
def va(a:Int):Bool:=decide (-(2 ^ 64)<a)&&decide (a<2 ^ 64)
def uE:=dI (λa b=>va a||va b) λa b=>.int (a * b)
def qZ:=dI (λ_ b=>decide (0<b)) λa b=>.int (a % b)
def vP:=dI (λ_ b=>decide (0<b)&&decide (b<1073741824)) λa b=>.int (a / b)
def HI:=dI (λa b=>decide (0<=b)&&decide (b<=1000000)&&decide (a.natAbs<2 ^ 64)) λa b=>.int (a ^ b.toNat)
def KH:=dI (λ_ _=>true) λa b=>.bl (decide (a<b))
def sG:=dI (λ_ _=>true) λa b=>.bl (decide (a<=b))
def CO:=dI (λ_ _=>true) λa b=>.bl (decide (b<a))
def NG:=dI (λ_ _=>true) λa b=>.bl (decide (b<=a))
theorem NH:OpD G (rI0 λi j=>.int (i+j)) qN:=zR λ_ _=>⟨rfl,rfl⟩
theorem NI:OpD G (rI JK λi j=>.int (i * j)) uE:=EG (λa b h=>by
 unfold va at h;simp only[gy,aE,bc]at h;exact h) λ_ _=>⟨rfl,rfl⟩
theorem NJ:OpD G (rI (λ_ j=>0<j) λi j=>.int (i % j)) qZ:=EG (λa b h=>by simpa using h) λ_ _=>⟨rfl,rfl⟩
theorem NK:OpD G (rI MY λi j=>.int (i / j)) vP:=EG (λa b h=>by unfold MY;simpa using h) λ_ _=>⟨rfl,rfl⟩
theorem NL:OpD G (rI Qu λi j=>.int (i ^ j.toNat)) HI:=EG (λa b h=>by
 simp only[aE,bc]at h;exact⟨h.1.1,h.1.2,h.2⟩) λ_ _=>⟨rfl,rfl⟩
theorem QZ:OpD G (rI0 λi j=>.bl (decide (i<j))) KH:=zR λ_ _=>⟨rfl,rfl⟩
theorem Q0:OpD G (rI0 λi j=>.bl (decide (i<=j))) sG:=zR λ_ _=>⟨rfl,rfl⟩
theorem Q1:OpD G (rI0 λi j=>.bl (decide (j<i))) CO:=zR λ_ _=>⟨rfl,rfl⟩
theorem Q2:OpD G (rI0 λi j=>.bl (decide (j<=i))) NG:=zR λ_ _=>⟨rfl,rfl⟩
def sS:D->D->Option D
 |.str a,.str b=>if a.length+b.length<=100000 then some (.str (a++b))else none
 |_,_=>none
theorem zS{n:Nat}(h:n<=100000):n<=aB:=bp h (by rw[cE];decide)
theorem KI:OpD G (λx y H Q=>∃i j,x=.str i/\y=.str j/\i.length+j.length<=aB/\Q (.str (i++j)) H) sS:=λx y z H0 H v u Q e s rx ry k=>by
 unfold sS at e;split at e
 ·rename_i a b;split at e
  ·rename_i hl;cases e;unfold Rep at rx ry;exact⟨a,b,rx,ry,zS hl,k _ λ_ _=>wt _⟩
  ·cases e
 ·cases e
def HJ:D->D->Option D
 |.str a,.str b=>some (.bl (!decide (b.cps.toList<a.cps.toList)))
 |_,_=>none
theorem NN:OpD G (λx y H Q=>∃i j,x=.str i/\y=.str j/\Q (.bl (!decide (j.cps.toList<i.cps.toList))) H) HJ:=λx y z H0 H v u Q e s rx ry k=>by
 unfold HJ at e;split at e
 ·rename_i a b;cases e;unfold Rep at rx ry;exact⟨a,b,rx,ry,k _ λ_ _=>qp _⟩
 ·cases e
def vc:D->D->Option D
 |.non,.non=>some (.bl true)
 |_,.non=>some (.bl false)
 |_,_=>none
def rO:D->D->Option D
 |.non,.non=>some (.bl false)
 |_,.non=>some (.bl true)
 |_,_=>none
theorem EH{d:D}{v:V}(h:Rep G H d v):decide (v=.non)=(match d with|.non=>true|_=>false):=by
 cases d<;>unfold Rep at h
 ·subst h;rfl
 ·subst h;rfl
 ·subst h;rfl
 ·subst h;rfl
 ·obtain⟨a,xs,rfl,_⟩:=h;rfl
 ·obtain⟨a,xs,rfl,_⟩:=h;rfl
 ·obtain⟨a,xs,rfl,_⟩:=h;rfl
 ·obtain⟨a,dx,xs,rfl,_⟩:=h;rfl
 ·obtain⟨a,ob,xs,rfl,_⟩:=h;rfl
theorem NO:OpD G (λx y H Q=>y=.non/\Q (.bl (decide (x=.non))) H) vc:=λx y z H0 H v u Q e s rx ry k=>by
 have e0:=EH rx;cases y<;>first|(cases x<;>cases e)|skip
 all_goals (unfold Rep at ry;refine⟨ry,?_⟩;rw[e0];exact k _ λ_ _=>qp _)
theorem KJ:OpD G (λx y H Q=>y=.non/\Q (.bl (!decide (x=.non))) H) rO:=λx y z H0 H v u Q e s rx ry k=>by
 have e0:=EH rx;cases y<;>first|(cases x<;>cases e)|skip
 all_goals (unfold Rep at ry;refine⟨ry,?_⟩;rw[e0];exact k _ λ_ _=>qp _)
def R7:D->D->Option D
 |.bl a,.bl b=>some (.bl (a != b))
 |_,_=>none
mutual
def toD:D->Option L3.Dq
 |.non=>some .non
 |.bl b=>some (.bl b)
 |.int i=>some (.int i)
 |.str x=>some (.str x)
 |.tup ds=>match vd ds with
  |some l=>some (.tup l)
  |none=>none
 |.lst ds=>match vd ds with
  |some l=>some (.lst l)
  |none=>none
 |.fzl _=>none
 |.obj _ _ _=>none
 |.dic _ _=>none
def vd:List D->Option (List L3.Dq)
 |[]=>some []
 |d::ds=>match toD d with
  |some x=>match vd ds with
   |some l=>some (x::l)
   |none=>none
  |none=>none
end
mutual
theorem zg:∀(d:D) (v:V) (x:L3.Dq),Rep G H d v->toD d=some x->L3.Rep G.K H x v
 |.non,v,x,h,e=>by unfold toD at e;cases e;unfold Rep at h;unfold L3.Rep;exact h
 |.bl b,v,x,h,e=>by unfold toD at e;cases e;unfold Rep at h;unfold L3.Rep;exact h
 |.int b,v,x,h,e=>by unfold toD at e;cases e;unfold Rep at h;unfold L3.Rep;exact h
 |.str b,v,x,h,e=>by unfold toD at e;cases e;unfold Rep at h;unfold L3.Rep;exact h
 |.tup ds,v,x,h,e=>by
  unfold toD at e;cases e1:vd ds with
  |none=>simp only[e1]at e;cases e
  |some l=>simp only[e1]at e;cases e;unfold Rep at h;obtain⟨a,xs,rfl,h1,h2⟩:=h;unfold L3.Rep;exact⟨a,xs,rfl,h1,xH ds xs l h2 e1⟩
 |.lst ds,v,x,h,e=>by
  unfold toD at e;cases e1:vd ds with
  |none=>simp only[e1]at e;cases e
  |some l=>simp only[e1]at e;cases e;unfold Rep at h;obtain⟨a,xs,rfl,h1,h2⟩:=h;unfold L3.Rep;exact⟨a,xs,rfl,SqL.of h1,xH ds xs l h2 e1⟩
 |.fzl _,v,x,h,e=>by unfold toD at e;cases e
 |.obj _ _ _,v,x,h,e=>by unfold toD at e;cases e
 |.dic _ _,v,x,h,e=>by unfold toD at e;cases e
theorem xH:∀(ds:List D) (xs:List V) (l:List L3.Dq),oN G H ds xs->vd ds=some l->L3.oN G.K H l xs
 |[],xs,l,h,e=>by unfold vd at e;cases e;unfold oN at h;unfold L3.oN;exact h
 |d::ds,xs,l,h,e=>by
  unfold vd at e;cases e1:toD d with
  |none=>simp only[e1]at e;cases e
  |some x=>
   simp only[e1]at e;cases e2:vd ds with
   |none=>simp only[e2]at e;cases e
   |some l'=>simp only[e2]at e;cases e;unfold oN at h;obtain⟨v,r,rfl,h1,h2⟩:=h;unfold L3.oN;exact⟨v,r,rfl,zg d v x h1 e1,xH ds r l' h2 e2⟩
end
def CP(neg:Bool):D->D->Option D:=λx y=>match qE x&&qE y&&GK (vD x) (vD y)with
 |true=>some (.bl (if neg then !decide (vD x=vD y)else decide (vD x=vD y)))
 |false=>none
def HK(neg:Bool):D->D->Option D:=λx y=>match toD x,toD y with
 |some a,some b=>if Hg a b&&decide (dpt a<=20)&&decide (dpt b<=20)then some (.bl (if neg then !eqD a b else eqD a b))else none
 |_,_=>none
def dEq(neg:Bool):D->D->Option D:=λx y=>match CP neg x y with
 |some z=>some z
 |none=>HK neg x y
theorem NP:OpD G rEq (CP false):=λx y z H0 H v u Q e s rx ry k=>by
 unfold CP at e;cases e1:qE x&&qE y&&GK (vD x) (vD y)with
 |false=>simp only[e1]at e;cases e
 |true=>simp only[e1]at e;cases e;simp only[aE]at e1;rw[sF rx e1.1.1,sF ry e1.1.2];exact⟨e1.2,k _ λ_ _=>qp _⟩
theorem NQ:OpD G rNe (CP true):=λx y z H0 H v u Q e s rx ry k=>by
 unfold CP at e;cases e1:qE x&&qE y&&GK (vD x) (vD y)with
 |false=>simp only[e1]at e;cases e
 |true=>simp only[e1]at e;cases e;simp only[aE]at e1;rw[sF rx e1.1.1,sF ry e1.1.2];exact⟨e1.2,k _ λ_ _=>qp _⟩
theorem HL:OpD G (DJ G.K neg) (HK neg):=λx y z H0 H v u Q e s rx ry k=>by
 unfold HK at e;cases e1:toD x with
 |none=>simp only[e1]at e;cases e
 |some a=>
  cases e2:toD y with
  |none=>simp only[e1,e2]at e;cases e
  |some b=>
   simp only[e1,e2]at e;split at e
   ·rename_i hc;cases e;simp only[aE,bc]at hc;exact⟨a,b,zg x v a (Rep.mono s _ _ rx) e1,zg y u b (Rep.mono s _ _ ry) e2,hc.1.1,hc.1.2,hc.2,k _ λ_ _=>qp _⟩
   ·cases e
theorem NR(hu:X.A.units+64<cLine)(hK:X.K=G.K:=by rfl):OpR X (aS .Eq) (λx y H Q=>rEq x y H Q\/DJ G.K false x y H Q):=by rw[<-hK];exact OpR.or Qv (Np hu)
theorem NS(hu:X.A.units+64<cLine)(hK:X.K=G.K:=by rfl):OpR X (aS .NotEq) (λx y H Q=>rNe x y H Q\/DJ G.K true x y H Q):=by rw[<-hK];exact OpR.or Qw (Nq hu)
theorem Q3:OpD G (λx y H Q=>rEq x y H Q\/DJ G.K false x y H Q) (dEq false):=OpD.or NP HL
theorem Q4:OpD G (λx y H Q=>rNe x y H Q\/DJ G.K true x y H Q) (dEq true):=OpD.or NQ HL
def HM:D->Option (List D)
 |.tup ds=>some ds
 |.lst ds=>some ds
 |.fzl ds=>some ds
 |_=>none
theorem EI{d:D}{v:V}(h:Rep G H d v)(e:HM d=some ds):∃p xs,v=.ref p/\(SqL G.K H p xs\/SqT G.K H p xs)/\oN G H ds xs:=by
 cases d with
 |tup l=>cases e;unfold Rep at h;obtain⟨a,xs,rfl,h1,h2⟩:=h;exact⟨a,xs,rfl,.inr h1,h2⟩
 |lst l=>cases e;unfold Rep at h;obtain⟨a,xs,rfl,h1,h2⟩:=h;exact⟨a,xs,rfl,.inl (SqL.of h1),h2⟩
 |fzl l=>cases e;unfold Rep at h;obtain⟨a,xs,rfl,h1,h2⟩:=h;exact⟨a,xs,rfl,.inl h1,h2⟩
 |_=>cases e
def dIn(neg:Bool):D->D->Option D:=λx y=>match HM y with
 |some ds=>if qE x&&ds.all qE then some (.bl (if neg then !inV (vD x) (ds.map vD)else inV (vD x) (ds.map vD)))else none
 |none=>none
theorem EJ{K:ak}{H:Hp}(s:oW H H')(h:SqL K H p xs\/SqT K H p xs):SqL K H' p xs\/SqT K H' p xs:=h.imp s.seq (SqT.mono s)
theorem L6:OpD G (rIn G.K neg) (dIn neg):=λx y z H0 H v u Q e s rx ry k=>by
 unfold dIn at e;cases e1:HM y with
 |none=>simp only[e1]at e;cases e
 |some ds=>
  simp only[e1]at e;split at e
  ·rename_i hc;cases e;simp only[aE]at hc;obtain⟨p,xs,rfl,h1,h2⟩:=EI ry e1;refine⟨p,xs,rfl,EJ s h1,?_,?_,?_⟩
   ·rw[sF rx hc.1];exact CN hc.1
   ·rw[yq h2 hc.2];exact A0 hc.2
   ·rw[sF rx hc.1,yq h2 hc.2];exact k _ λ_ _=>qp _
  ·cases e
theorem NT(hK:X.K=G.K:=by rfl):OpR X (aS .In) (rIn G.K false):=by rw[<-hK];exact FD
theorem FZ(hK:X.K=G.K:=by rfl):OpR X (aS .NotIn) (rIn G.K true):=by rw[<-hK];exact BD
def dIx:D->D->Option D
 |.tup ds,.int i=>atI ds i
 |.lst ds,.int i=>atI ds i
 |.fzl ds,.int i=>atI ds i
 |.str x,.int i=>if x.length<=100000 then (atI x.cps.toList i).map λc=>.str ⟨#[c]⟩else none
 |_,_=>none
theorem Q5:OpD G (rIx G.K) dIx:=λx y z H0 H v u Q e s rx ry k=>by
 cases y with
 |int i=>
  unfold Rep at ry;subst ry;cases x with
  |tup ds=>unfold Rep at rx;obtain⟨a,xs,rfl,h1,h2⟩:=rx;obtain⟨w,w1,w2⟩:=zN h2 (show atI ds i=some z from e);exact .inr (.inl ⟨a,xs,i,w,rfl,rfl,SqT.mono s h1,w1,k _ λH0' s'=>Rep.mono s' _ _ w2⟩)
  |lst ds=>unfold Rep at rx;obtain⟨a,xs,rfl,h1,h2⟩:=rx;obtain⟨w,w1,w2⟩:=zN h2 (show atI ds i=some z from e);exact .inl ⟨a,xs,i,w,rfl,rfl,s.seq (SqL.of h1),w1,k _ λH0' s'=>Rep.mono s' _ _ w2⟩
  |fzl ds=>unfold Rep at rx;obtain⟨a,xs,rfl,h1,h2⟩:=rx;obtain⟨w,w1,w2⟩:=zN h2 (show atI ds i=some z from e);exact .inl ⟨a,xs,i,w,rfl,rfl,s.seq h1,w1,k _ λH0' s'=>Rep.mono s' _ _ w2⟩
  |str t=>
   unfold Rep at rx;subst rx;unfold dIx at e;simp only at e;split at e
   ·rename_i hl;cases e1:atI t.cps.toList i with
    |none=>rw[e1]at e;cases e
    |some c=>rw[e1]at e;cases e;exact .inr (.inr ⟨t,i,c,rfl,rfl,zS hl,e1,k _ λ_ _=>wt _⟩)
   ·cases e
  |_=>cases e
 |_=>cases x<;>cases e
theorem Sj(hK:X.K=G.K:=by rfl):IxR X (rIx G.K):=by rw[<-hK];exact Nf
def A1(G:Bg)(r:List V->Hp->VK->Prop)(g:D->Option D):Prop:=∀x z H0 H v (Q:VK),g x=some z->oW H0 H->Rep G H0 x v->(∀w,(∀H0',oW H0 H0'->Rep G H0' z w)->Q w H)->r [v] H Q
theorem L7{g:D->Option D}(hr:A1 G r g)(h:PE X e (tCB r (tFA G (aCons f pC)))):PE X e (tF G (c1 g f)):=PE.weak h λσ H Q hh=>by obtain⟨F,ρ,H0,d,ρ',R,e,k⟩:=hh;obtain⟨x,e1,e2⟩:=ze e;refine⟨F,ρ,H0,[x],ρ',R,by unfold aCons;rw[e1];rfl,λys H1 H1' s R' rs=>?_⟩;unfold oN at rs;obtain⟨v,r0,rfl,rv,rn⟩:=rs;unfold oN at rn;subst rn;exact hr x d H1 H1' v Q e2 R'.sub rv λw hw=>k _ _ _ s R' (hw _ (oW.refl _))
theorem qC.or{f:aa}{r':List V->Hp->VK->Prop}(h:qC X f r)(h':qC X f r'):qC X f (λx H Q=>r x H Q\/r' x H Q):=λpins s σ H xs us Q I rv q=>q.elim (h pins s σ H xs us Q I rv) (h' pins s σ H xs us Q I rv)
def rG:D->Option D
 |.tup ds=>some (.int ds.length)
 |.lst ds=>some (.int ds.length)
 |.fzl ds=>some (.int ds.length)
 |.str x=>if x.length<=100000 then some (.int x.length)else none
 |.dic ks ds=>some (.int ks.length)
 |_=>none
theorem F0:qC X (.builtin "len") (λxs H Q=>∃a kvs,xs=[V.ref a]/\Rd H a (.dK kvs)/\Q (.int kvs.length) H):=by intro pins s σ H xs us Q I r h;obtain⟨a,kvs,rfl,ha,q⟩:=h;obtain⟨u,rfl,ru⟩:=vals1 r;cases ru;exact QL I ha λt s' I'=>⟨.int kvs.length,H,I',⟨t,rfl⟩,q⟩
def L8(K:ak):List V->Hp->VK->Prop:=λxs H Q=>(∃p ys,xs=[.ref p]/\(SqL K H p ys\/SqT K H p ys)/\Q (.int ys.length) H)\/((∃z,xs=[.str z]/\z.length<=aB/\Q (.int z.length) H)\/(∃a kvs,xs=[V.ref a]/\Rd H a (.dK kvs)/\Q (.int kvs.length) H))
theorem F1(hK:X.K=G.K:=by rfl):qC X (.builtin "len") (L8 G.K):=by rw[<-hK];exact qC.or BE (qC.or BF F0)
theorem NU:A1 G (L8 G.K) rG:=λx z H0 H v Q e s rx k=>by
 cases x with
 |tup ds=>cases e;unfold Rep at rx;obtain⟨a,xs,rfl,h1,h2⟩:=rx;refine .inl ⟨a,xs,rfl,.inr (SqT.mono s h1),?_⟩;rw[<-oM h2];exact k _ λ_ _=>qo _
 |lst ds=>cases e;unfold Rep at rx;obtain⟨a,xs,rfl,h1,h2⟩:=rx;refine .inl ⟨a,xs,rfl,.inl (s.seq (SqL.of h1)),?_⟩;rw[<-oM h2];exact k _ λ_ _=>qo _
 |fzl ds=>cases e;unfold Rep at rx;obtain⟨a,xs,rfl,h1,h2⟩:=rx;refine .inl ⟨a,xs,rfl,.inl (s.seq h1),?_⟩;rw[<-oM h2];exact k _ λ_ _=>qo _
 |str t=>
  unfold rG at e;simp only at e;split at e
  ·rename_i hl;cases e;unfold Rep at rx;exact .inr (.inl ⟨t,by rw[rx],zS hl,k _ λ_ _=>qo _⟩)
  ·cases e
 |dic ks ds=>cases e;unfold Rep at rx;obtain⟨a,o,xs,rfl,h1,h2,h3⟩:=rx;refine .inr (.inr ⟨a,_,rfl,.inr ⟨o,s _ _ h1⟩,?_⟩);rw[fK,<- h2,fO];exact k _ λ_ _=>qo _
 |_=>cases e
def DN:D->Option D
 |.int i=>some (.int i)
 |.bl b=>some (.int (if b then 1 else 0))
 |_=>none
theorem NV:A1 G (λxs H Q=>(∃i,xs=[.int i]/\Q (.int i) H)\/∃k,xs=[.bl k]/\Q (.int (if k then 1 else 0)) H) DN:=λx z H0 H v Q e s rx k=>by
 cases x with
 |int i=>cases e;unfold Rep at rx;subst rx;exact .inl ⟨i,rfl,k _ λ_ _=>qo _⟩
 |bl b=>cases e;unfold Rep at rx;subst rx;exact .inr ⟨b,rfl,k _ λ_ _=>qo _⟩
 |_=>cases e
def AK:List D->Option (List Bool)
 |[]=>some []
 |.bl b::r=>(AK r).map (b::·)
 |_=>none
theorem zT:∀{ds:List D} {xs:List V} {bs:List Bool},oN G H ds xs->AK ds=some bs->xs=bs.map V.bl
 |[],xs,bs,h,e=>by cases e;unfold oN at h;exact h
 |.bl b::r,xs,bs,h,e=>by
  unfold oN at h;obtain⟨v,q,rfl,h1,h2⟩:=h;unfold AK at e;cases e1:AK r with
  |none=>rw[e1]at e;cases e
  |some l=>rw[e1]at e;cases e;unfold Rep at h1;subst h1;rw[zT h2 e1];rfl
 |.non::r,xs,bs,h,e=>by cases e
 |.int _::r,xs,bs,h,e=>by cases e
 |.str _::r,xs,bs,h,e=>by cases e
 |.tup _::r,xs,bs,h,e=>by cases e
 |.lst _::r,xs,bs,h,e=>by cases e
 |.fzl _::r,xs,bs,h,e=>by cases e
 |.obj _ _ _::r,xs,bs,h,e=>by cases e
 |.dic _ _::r,xs,bs,h,e=>by cases e
def qW:D->Option D
 |.lst ds=>(AK ds).map λbs=>.bl (bs.all id)
 |_=>none
theorem NW:A1 G (λxs H Q=>∃(p:Addr) (bs:List Bool),xs=[.ref p]/\SqL G.K H p (bs.map V.bl)/\Q (.bl (bs.all id)) H) qW:=λx z H0 H v Q e s rx k=>by
 cases x with
 |lst ds=>
  unfold qW at e;simp only at e;cases e1:AK ds with
  |none=>rw[e1]at e;cases e
  |some bs=>rw[e1]at e;cases e;unfold Rep at rx;obtain⟨a,xs,rfl,h1,h2⟩:=rx;rw[zT h2 e1]at h1;exact⟨a,bs,rfl,s.seq (SqL.of h1),k _ λ_ _=>qp _⟩
 |_=>cases e
theorem F2(hc:X.calm=true)(hK:X.K=G.K:=by rfl):qC X (.builtin "all") (λxs H Q=>∃(p:Addr) (bs:List Bool),xs=[.ref p]/\SqL G.K H p (bs.map V.bl)/\Q (.bl (bs.all id)) H):=by rw[<-hK];exact G9 hc
inductive Ty where
 |b (n:String)|c (k:Nat)
def Ty.val(G:Bg):Ty->aa
 |.b n=>.type n
 |.c k=>.ref (G.ca k)
def Ty.v(G:Bg):Ty->V
 |.b n=>.ty n
 |.c k=>.ref (G.ca k)
def tyD:D->Ty
 |.non=>.b "NoneType" |.bl _=>.b "bool" |.int _=>.b "int" |.str _=>.b "str" |.tup _=>.b "tuple" |.lst _=>.b "list" |.fzl _=>.b "list" |.dic _ _=>.b "dict" |.obj c _ _=>.c c
structure F3(K:ak)(C:Addr):Prop where
 cl:Cls K C
 ha:cu K (.ref C) "__class__" = some (some (.builtin "object.__class__"))
 hn:mD K (.builtin "object.__class__") "__get__" = some (some (.builtin "getset_descriptor.__get__"))
 htk:W.takesIn K (.builtin "object.__class__")=some true
 hm:W.mroIn K C (.type "object")=some true
theorem HN{pins:List (Addr×Obj)}{s:ae}{A:aw}{E:aa->ae->Prop}{Q:aa->ae->Prop}{c:aa}{b:Bool}{d:D}{v:V}{u:aa}(I:Inv X pins σ H s)(hK:X.K=G.K)(hd:Rep G H d v)(rv:RelV v u)(hc:∀k ns ds,d=.obj k ns ds->F3 X.K (G.ca k))
  (e:cv X.K ((tyD d).val G) c=some b) (h:∀tk,Q (.bool b) { s with toks:=tk }):af (model X.prog X.w) A (call (.builtin "isinstance") [u,c]) Q E s:=by
 cases d with
 |non=>unfold Rep at hd;subst hd;exact sZ I rv .non e h
 |bl x=>unfold Rep at hd;subst hd;exact sZ I rv (.bl x) e h
 |int x=>unfold Rep at hd;subst hd;exact sZ I rv (.int x) e h
 |str x=>unfold Rep at hd;subst hd;exact sZ I rv (.str x) e h
 |tup ds=>unfold Rep at hd;obtain⟨a,xs,rfl,h1,h2⟩:=hd;cases rv;rw[<-hK]at h1;obtain⟨its,_,p,_⟩:=I.tuple h1;obtain⟨o,q1,q2,_⟩:=p;exact cc mi I.kIn ⟨o,q1,q2⟩ e (λz=>nomatch z) h
 |lst ds=>unfold Rep at hd;obtain⟨a,xs,rfl,h1,h2⟩:=hd;exact sZ I rv (.lst h1) e h
 |fzl ds=>unfold Rep at hd;obtain⟨a,xs,rfl,h1,h2⟩:=hd;cases rv;rw[<-hK]at h1;obtain⟨its,_,p,_⟩:=I.list h1;obtain⟨o,n,q1,q2,_⟩:=p;exact cc jn I.kIn ⟨o,q1,q2⟩ e (λz=>nomatch z) h
 |dic ks ds=>unfold Rep at hd;obtain⟨a,o,xs,rfl,h1,h2,h3⟩:=hd;cases rv;obtain⟨q0,_,_,vs,_,ob,es,ep,q1,q2,_⟩:=(show p9 X.prog X.w H s.heap a (.frz o (.dK (ks.zip xs))) from I.hok a _ h1);exact cc jo I.kIn ⟨ob,q1,q2.1⟩ e (λz=>nomatch z) h
 |obj k ns ds=>have ci:=hc k ns ds rfl;unfold Rep at hd;obtain⟨a,dx,xs,rfl,h1,h2,h3⟩:=hd;exact sZ I rv (.ins h1 ci.cl ci.ha ci.hn ci.htk ci.hm) e h
def rP(t:Ty->Option Bool):D->Option D:=λd=>(t (tyD d)).map .bl
theorem A2(c:Ty){t:Ty->Option Bool}(ht:∀y b,t y=some b->cv X.K (y.val G) (c.val G)=some b)(hc:∀k b,t (.c k)=some b->F3 X.K (G.ca k))(hK:X.K=G.K:=by rfl):
  qC X (.builtin "isinstance") (λxs H Q=>∃d x b,xs=[x,c.v G]/\Rep G H d x/\t (tyD d)=some b/\Q (.bl b) H):=by
 intro pins s σ H xs us Q I r h;obtain⟨d,x,b,rfl,hd,e,q⟩:=h;obtain⟨u,w',rfl,ru,rw'⟩:=vals2 r;have ew:w'=c.val G:=by cases c<;>exact rw'
 subst ew;exact HN I hK hd ru (λk ns ds z=>by subst z;exact hc k b e) (ht _ _ e) λtk=>⟨.bl b,H,I.tok _,rfl,q⟩
theorem EK{c:Ty}{t:Ty->Option Bool}(h:PE X e (tCB (λxs H Q=>∃d x b,xs=[x,c.v G]/\Rep G H d x/\t (tyD d)=some b/\Q (.bl b) H) (zv (tF G f) (zv (tC (c.v G)) Cn)))):PE X e (tF G (c1 (rP t) f)):=PE.weak h λσ H Q hh=>by
 obtain⟨F,ρ,H0,d,ρ',R,e,k⟩:=hh;obtain⟨x,e1,e2⟩:=ze e;unfold rP at e2;cases e3:t (tyD x)with
 |none=>rw[e3]at e2;cases e2
 |some b=>rw[e3]at e2;cases e2;exact⟨F,ρ,H0,x,ρ',R,e1,λv H1 H1' s R' r=>⟨x,v,b,rfl,Rep.mono R'.sub _ _ r,e3,k _ _ _ s R' (qp b)⟩⟩
def qa(f g:FE):FA:=λρ=>match f ρ with
 |some (.lst xs,ρ1)=>match g ρ1 with
  |some (.lst ys,ρ2)=>if xs.length+ys.length<=1000 then some (xs++ys,ρ2)else none
  |_=>none
 |_=>none
theorem KL{a:Expr}{g:FE}(ha:PE X a (tF G f))(hb:PE X b (tF G g)):PE X (.BinOp a .Add b pos) (tFN G (qa f g)):=PE.weak (El Nh ha hb) λσ H Q hh=>by
 obtain⟨F,ρ,H0,d,ρ',R,e,k⟩:=hh;unfold qa at e;split at e
 ·rename_i xs ρ1 e1;split at e
  ·rename_i ys ρ2 e2;split at e
   ·rename_i hl;cases e;refine⟨F,ρ,H0,_,ρ1,R,e1,λv H1 H1' s R' r=>⟨F,ρ1,H1,_,_,R',e2,λu H2 H2' s2 R2 r2=>?_⟩⟩;have r':=Rep.mono s2 _ _ r;unfold Rep at r' r2;obtain⟨a1,xs1,rfl,h1,h2⟩:=r';obtain⟨a2,xs2,rfl,h3,h4⟩:=r2;refine⟨a1,a2,xs1,xs2,rfl,rfl,R2.sub _ _ h1,R2.sub _ _ h3,by rw[<-oM h2,<- oM h4];exact rj hl,λp hp=>?_⟩;exact k p _ _ _ (s.trans s2) (R2.newOwn hp _) oZ (R2.h0none hp) (R2.bNone hp) (R2.apart hp) (qh h2 h4)
   ·cases e
  ·cases e
 ·cases e
def uF(f:FE):FA:=λρ=>match f ρ with
 |some (d,ρ1)=>match HM d with
  |some ds=>some (ds,ρ1)
  |none=>none
 |none=>none
theorem HP(h:PE X e (tCB (λxs H Q=>∃p ys,xs=[.ref p]/\(SqL G.K H p ys\/SqT G.K H p ys)/\∀l,H l=none->Q (.ref l) (upd H l (.lst ys))) (tFA G (aCons f pC)))):PE X e (tFN G (uF f)):=PE.weak h λσ H Q hh=>by
 obtain⟨F,ρ,H0,ds,ρ',R,e,k⟩:=hh;unfold uF at e;rcases o9 (f:=f) (ρ:=ρ)with e1|⟨d,ρ1,e1⟩<;>simp only[e1]at e
 ·cases e
 ·cases e2:HM d with
  |none=>simp only[e2]at e;cases e
  |some ds'=>simp only[e2]at e;cases e;refine⟨F,ρ,H0,[d],_,R,by unfold aCons;rw[e1];rfl,λys H1 H1' s R' rs=>?_⟩;unfold oN at rs;obtain⟨v,r0,rfl,rv,rn⟩:=rs;unfold oN at rn;subst rn;obtain⟨p,xs,rfl,h1,h2⟩:=EI rv e2;exact⟨p,xs,rfl,EJ R'.sub h1,λl hl=>k l _ _ _ s (R'.newOwn hl _) oZ (R'.h0none hl) (R'.bNone hl) (R'.apart hl) h2⟩
theorem DO(hK:X.K=G.K:=by rfl):qC X (.type "list") (λxs H Q=>∃p ys,xs=[.ref p]/\(SqL G.K H p ys\/SqT G.K H p ys)/\∀l,H l=none->Q (.ref l) (upd H l (.lst ys))):=by rw[<-hK];exact BG
def sH(f:FE):FE:=λρ=>match f ρ with
 |some (.lst ds,ρ1)=>some (.tup ds,ρ1)
 |some (.tup ds,ρ1)=>some (.tup ds,ρ1)
 |_=>none
theorem HQ(h:PE X e (tCB (λxs H Q=>∃p ys,xs=[.ref p]/\((SqL G.K H p ys/\∀l,H l=none->Q (.ref l) (upd H l (.tup ys)))\/(SqT G.K H p ys/\Q (.ref p) H))) (tFA G (aCons f pC)))):PE X e (tF G (sH f)):=PE.weak h λσ H Q hh=>by
 obtain⟨F,ρ,H0,ds,ρ',R,e,k⟩:=hh;unfold sH at e;split at e
 ·rename_i xs ρ1 e1;cases e;refine⟨F,ρ,H0,[_],_,R,by unfold aCons;rw[e1];rfl,λys H1 H1' s R' rs=>?_⟩;unfold oN at rs;obtain⟨v,r0,rfl,rv,rn⟩:=rs;unfold oN at rn;subst rn;unfold Rep at rv;obtain⟨p,zs,rfl,h1,h2⟩:=rv;refine⟨p,zs,rfl,.inl ⟨SqL.of (R'.sub _ _ h1),λl hl=>?_⟩⟩;exact k _ _ _ (s.trans (o6 (R'.h0none hl) _)) (R'.newIm hl _) (uY (SqT.of oZ) (oN.mono (o6 (R'.h0none hl) _) _ _ h2))
 ·rename_i xs ρ1 e1;cases e;refine⟨F,ρ,H0,[_],_,R,by unfold aCons;rw[e1];rfl,λys H1 H1' s R' rs=>?_⟩;unfold oN at rs;obtain⟨v,r0,rfl,rv,rn⟩:=rs;unfold oN at rn;subst rn;have rv0:=rv;unfold Rep at rv;obtain⟨p,zs,rfl,h1,h2⟩:=rv;exact⟨p,zs,rfl,.inr ⟨SqT.mono R'.sub h1,k _ _ _ s R' rv0⟩⟩
 ·cases e
theorem F4(hK:X.K=G.K:=by rfl):qC X (.type "tuple") (λxs H Q=>∃p ys,xs=[.ref p]/\((SqL G.K H p ys/\∀l,H l=none->Q (.ref l) (upd H l (.tup ys)))\/(SqT G.K H p ys/\Q (.ref p) H))):=by rw[<-hK];exact AF
def cutD(xs:List D)(lo hi:Option Int):List D:=(xs.drop (HT.sIx xs.length 0 lo)).take (HT.sIx xs.length xs.length hi - HT.sIx xs.length 0 lo)
theorem zU{lo hi:Option Int}(r:oN G H0 ds xs):oN G H0 (cutD ds lo hi) (BA xs lo hi):=by unfold cutD BA;rw[<-oM r];exact AY _ (AX _ r)
def tO(o:Option Int):TO:=λ_ H Q=>Q o H
theorem HR{n:Int}{j pos}:PO X (some (.Constant (.int n) j pos)) (tO (some n)):=λpins s σ H Q I h=>Et Do pins s σ H Q I ⟨n,rfl,h⟩
theorem Q6:PO X none (tO none):=Es
theorem Sk(hK:X.K=G.K:=by rfl):SlR X (JW G.K):=by rw[<-hK];exact JX
end
def Sl.bor:Sl->Sl
 |.un=>.un
 |.im d=>.im d
 |.ls ds=>.im (.lst ds)
 |.pm ds=>.im (.lst ds)
 |.dk _ _=>.un
 |.ob c ns ds=>.im (.obj c ns ds)
variable{fa fb fc:FE}{op':eB}
section
variable{X:Cx}{G:Bg}
theorem o8.bor{H:Hp}(R:o8 G F σ ρ H0 H):o8 G ⟨H,H,[]⟩ σ (ρ.map Sl.bor) H H where
 sub:=oW.refl _
 g0:=oW.refl _
 keep:=λb o e _=>e
 fr:=λb o e=>.inl e
 am:=λa h=>by cases h
 len:=by rw[ag];exact R.len
 sl:=λi s e=>by
  rw[aY]at e;cases e1:ρ[i]? with
  |none=>rw[e1]at e;cases e
  |some t=>
   rw[e1]at e;cases e;have ok:=R.sl i t e1;cases t with
   |un=>trivial
   |im d=>obtain⟨v,h1,h2⟩:=ok;exact⟨v,h1,Rep.mono R.sub _ _ h2⟩
   |ls ds=>obtain⟨a,xs,h1,h2,h3,h4,h5⟩:=ok;exact⟨_,h1,uZ h2 (oN.mono R.sub _ _ h5)⟩
   |pm ds=>obtain⟨a,xs,h1,h2,h3,h4,h5⟩:=ok;exact⟨_,h1,uZ h2 (oN.mono R.sub _ _ h5)⟩
   |dk ks ds=>trivial
   |ob c ns ds=>obtain⟨a,dx,xs,h1,h2,h3,h4,h5,h6⟩:=ok;exact⟨_,h1,by unfold Rep;exact⟨a,dx,xs,rfl,h2,h5,oN.mono R.sub _ _ h6⟩⟩
 ap:=λi j s t a _ e _ so=>by
  rw[aY]at e;cases e1:ρ[i]? with
  |none=>rw[e1]at e;cases e
  |some t=>rw[e1]at e;cases e;cases t<;>cases so
theorem o8.unbor{σ':St}{H:Hp}(R:o8 G F σ ρ H0 H)(R':o8 G ⟨H,H,[]⟩ σ' ρ' H1 H1'):o8 G F σ ρ H0 H1':=
 R.grow (λb o e=>R'.keep b o e (by simp)) (oW.refl _) (λb o e=>R'.keep b o (R.sub _ _ e) (by simp)) λb o e=>.inl e
def xI(f:FE):FE:=λρ=>match f (ρ.map Sl.bor)with
 |some (d,_)=>if qE d=true then some (d,ρ)else none
 |none=>none
def vz(f:FT):FT:=λρ=>match f (ρ.map Sl.bor)with
 |some (d,_)=>some (d,ρ)
 |none=>none
theorem NX(h:PE X e (tF G f)):PE X e (tF G (xI f)):=PE.weak h λσ H Q hh=>by
 obtain⟨F,ρ,H0,d,ρ',R,e,k⟩:=hh;unfold xI at e;rcases o9 (f:=f) (ρ:=ρ.map Sl.bor)with e1|⟨x,ρ1,e1⟩<;>simp only[e1]at e
 ·cases e
 ·split at e
  ·rename_i hf;cases e;refine⟨_,_,H,d,ρ1,R.bor,e1,λv H1 H1' s R' r=>?_⟩;rw[sF r hf];exact k _ _ _ (oW.refl _) (R.unbor R') (xG hf _)
  ·cases e
theorem KM{f:FT}(h:PT X e (tFT G f)):PT X e (tFT G (vz f)):=PT.weak h λσ H Q hh=>by
 obtain⟨F,ρ,H0,d,ρ',R,e,k⟩:=hh;unfold vz at e;rcases o9 (f:=f) (ρ:=ρ.map Sl.bor)with e1|⟨x,ρ1,e1⟩<;>simp only[e1]at e
 ·cases e
 ·cases e;exact⟨_,_,H,d,ρ1,R.bor,e1,λH1 H1' s R'=>k _ _ (oW.refl _) (R.unbor R')⟩
def qO(g g':D->D->Option D)(fa fb fc:FE):FE:=λρ=>match fa ρ with
 |some (x,ρ1)=>match fb ρ1 with
  |some (y,ρ2)=>match g x y with
   |some (.bl true)=>match fc ρ2 with
    |some (z,ρ3)=>match g' y z with
     |some w=>some (w,ρ3)
     |none=>none
    |none=>none
   |some (.bl false)=>some (.bl false,ρ2)
   |_=>none
  |none=>none
 |none=>none
theorem CQ{r:R2}{g:D->D->Option D}(ho:OpD G r g)(ho':OpD G r' g'):∀σ H Q,tF G (qO g g' fa fb fc) σ H Q->Dt r r' (tF G fa) (tF G fb) (tF G fc) σ H Q:=λσ H Q hh=>by
 obtain⟨F,ρ,H0,d,ρ',R,e,k⟩:=hh;unfold qO at e;rcases o9 (f:=fa) (ρ:=ρ)with e1|⟨x,ρ1,e1⟩<;>simp only[e1]at e
 ·cases e
 rcases o9 (f:=fb) (ρ:=ρ1)with e2|⟨y,ρ2,e2⟩<;>simp only[e2]at e
 ·cases e
 refine⟨F,ρ,H0,x,ρ1,R,e1,λv H1 H1' s1 R1 r1=>⟨F,ρ1,H1,y,ρ2,R1,e2,λu H2 H2' s2 R2 r2=>?_⟩⟩;split at e
 ·rename_i e3;refine ho x y _ H2 H2' v u _ e3 R2.sub (Rep.mono s2 _ _ r1) r2 λw hw=>?_;have hw':=hw H2 (oW.refl _);unfold Rep at hw';refine⟨true,hw',BL ?_⟩;rcases o9 (f:=fc) (ρ:=ρ2)with e4|⟨z,ρ3,e4⟩<;>simp only[e4]at e
  ·cases e
  cases e5:g' y z with
  |none=>simp only[e5]at e;cases e
  |some q=>simp only[e5]at e;cases e;refine⟨F,ρ2,H2,z,_,R2,e4,λt H3 H3' s3 R3 r3=>?_⟩;exact ho' y z _ H3 H3' u t Q e5 R3.sub (Rep.mono s3 _ _ r2) r3 λw hw=>k w H3 H3' (s1.trans (s2.trans s3)) R3 (hw _ (oW.refl _))
 ·rename_i e3;cases e;refine ho x y _ H2 H2' v u _ e3 R2.sub (Rep.mono s2 _ _ r1) r2 λw hw=>?_;have hw':=hw H2 (oW.refl _);unfold Rep at hw';exact⟨false,hw',BK (k _ _ _ (s1.trans s2) R2 (qp false))⟩
 ·cases e
theorem HS{a c:Expr}{r:R2}{g:D->D->Option D}(hr:OpR X (aS op) r)(hr':OpR X (aS op') r')(ho:OpD G r g)(ho':OpD G r' g')(ha:PE X a (tF G fa))(hb:PE X b (tF G fb))(hc:PE X c (tF G fc))
  (hm:lastMarks [op,op'] [b,c]=false:=by with_unfolding_all rfl):PE X (.Compare a [op,op'] [b,c] pos) (tF G (qO g g' fa fb fc)):=PE.weak (GO hr hr' ha hb hc hm) (CQ ho ho')
theorem F5{a c:Expr}{r:R2}{g:D->D->Option D}(hr:OpR X (aS op) r)(hr':OpR X (aS op') r')(ho:OpD G r g)(ho':OpD G r' g')(ha:PE X a (tF G fa))(hb:PE X b (tF G fb))(hc:PE X c (tF G fc))
  (hm:lastMarks [op,op'] [b,c]=false:=by with_unfolding_all rfl):PT X (.Compare a [op,op'] [b,c] pos) (tFT G (cT (qO g g' fa fb fc))):=PT.weak (GP hr hr' ha hb hc hm) λσ H Q hh=>by
 obtain⟨F,ρ,H0,d,ρ',R,e,k⟩:=zf σ H Q hh;exact CQ ho ho' σ H _ ⟨F,ρ,H0,d,ρ',R,e,k⟩
end
def wQ(P:ar)(w:aq)(K:ak)(mg:Str->Option aa)(base:Heap)(k:Nat)(x:Str)(ps:List Str)(sp:Sp):Prop:=
 ∃(f:Addr) (fd:bA),mg x=some (.ref f)/\cH K (.ref f)=true/\Binds K fd ps []/\rJ P w K mg base CX0 k f fd ps sp
def BQ(G:Bg)(P:ar)(w:aq)(mg:Str->Option aa)(base:Heap)(k:Nat)(x:Str)(c:Nat)(ps:List Str)(dvs:List V)(g:List D->Option (List Str×List D)):Prop:=
 ∃(f:Addr) (fd:bA) (ds:List aa),Mk G.K (G.ca c) f/\mg x=some (.ref (G.ca c))/\Binds G.K fd ps ds/\Vals dvs ds/\rJ P w G.K mg base CX0 k f fd ps (spI G c g)
def yt(G:Bg)(P:ar)(w:aq)(mg:Str->Option aa)(base:Heap)(k:Nat)(m:Str)(c:Nat)(h:List D->Option D):Prop:=
 ∃(f:Addr) (fd:bA) (ps:List Str),Cls G.K (G.ca c)/\Meth G.K (G.ca c) m f/\Binds G.K fd ps []/\rJ P w G.K mg base CX0 k f fd ps (spF G h)
section
variable{X:Cx}{G:Bg}{k:Nat}{x m:Str}{p pos apos:Pos}{e o:Expr}{es:List Expr}{a:FA}{ps:List Str}
theorem yL{α:Type}(g:List D->α):(λds=>g (ds++[]))=g:=funext λds=>by rw[bH]
theorem NY{g:List D->Option D}(D:wQ X.prog X.w X.K X.mg X.base k x ps (spF G g))(hr:qg k X.A)(ha:PA X (e::es) (tFA G a))(hg:Gl X x:=by rfl)(hdb:(x==("__debug__" : Str))=false:=by decide)(he:az (e::es) X.env=(false,eval e X.env)::az es X.env:=by rfl)(hpl:(aZ pos (az es X.env)).any (·.1)=false:=by rfl):
  PE X (.Call (.Name x p) (e::es) [] pos) (tF G (oP g a)):=by
 obtain⟨f,fd,h1,h2,h3,h4⟩:=D;have q:=Kw (dvs:=[]) (dds:=[]) (λ_=>pB) (xp (p:=p) (pos:=pos) h4 hr hg h1 h2 h3 .nil zD ha hdb he hpl);rw[yL]at q;exact q
theorem KO{g:List D->Option (List D)}(D:wQ X.prog X.w X.K X.mg X.base k x ps (spN G g))(hr:qg k X.A)(ha:PA X (e::es) (tFA G a))(hg:Gl X x:=by rfl)(hdb:(x==("__debug__" : Str))=false:=by decide)(he:az (e::es) X.env=(false,eval e X.env)::az es X.env:=by rfl)(hpl:(aZ pos (az es X.env)).any (·.1)=false:=by rfl):
  PE X (.Call (.Name x p) (e::es) [] pos) (tFN G (qe g a)):=by
 obtain⟨f,fd,h1,h2,h3,h4⟩:=D;have q:=HA (dvs:=[]) (dds:=[]) (λ_=>pB) (xp (p:=p) (pos:=pos) h4 hr hg h1 h2 h3 .nil zD ha hdb he hpl);rw[yL]at q;exact q
theorem HU{g:List D->Option (List D)}(D:wQ X.prog X.w X.K X.mg X.base k x ps (spN G g))(hr:qg k X.A)(hg:Gl X x:=by rfl)(hdb:(x==("__debug__" : Str))=false:=by decide):PE X (.Call (.Name x p) [] [] pos) (tFN G (qe g pC)):=by obtain⟨f,fd,h1,h2,h3,h4⟩:=D;exact FU (GT h4 hr hg h1 h2 h3 .nil zD hdb)
theorem KP{g:List D->List D->Option (D×List D)}(D:wQ X.prog X.w X.K X.mg X.base k x ps (spM G g))(hr:qg k X.A)(hv:PE X e (vH i))(ha:PA X es (tFA G a))(hg:Gl X x:=by rfl)(hdb:(x==("__debug__" : Str))=false:=by decide)(he:az (e::es) X.env=(false,eval e X.env)::az es X.env:=by rfl)(hpl:(aZ pos (az es X.env)).any (·.1)=false:=by rfl):
  PE X (.Call (.Name x p) (e::es) [] pos) (tF G (pJ g i a)):=by
 obtain⟨f,fd,h1,h2,h3,h4⟩:=D;exact NF (xp (p:=p) (pos:=pos) h4 hr hg h1 h2 h3 .nil zD (rH hv ha he) hdb he hpl)
theorem KQ{g:List D->Option (List Str×List D)}(M:BQ G X.prog X.w X.mg X.base k x c ps dvs g)(hd:∀H,oN G H dds dvs)(hr:qg (k+1) X.A)(ha:PA X (e::es) (tFA G a))(hK:X.K=G.K:=by rfl)(hg:Gl X x:=by rfl)(hdb:(x==("__debug__" : Str))=false:=by decide)
  (he:az (e::es) X.env=(false,eval e X.env)::az es X.env:=by rfl) (hpl:(aZ pos (az es X.env)).any (·.1)=false:=by rfl):
  PE X (.Call (.Name x p) (e::es) [] pos) (tF G (pE c (λds=>g (ds++dds)) a)):=by
 obtain⟨f,fd,ds,h1,h2,h3,h4,h5⟩:=M;rw[<-hK]at h1 h3 h5;exact Kz hd (JR (p:=p) (pos:=pos) h1 h5 hr hg h2 h3 h4 zD ha hdb he hpl)
theorem L9{g:Nat->Option (List D->Option D)}(M:∀c h,g c=some h->yt G X.prog X.w X.mg X.base k m c h)(hr:qg k X.A)(hK:X.K=G.K):∀C sp,MT G g C sp->MOk X C m sp [] E0:=λC sp h=>by obtain⟨c,h,e,rfl,rfl⟩:=h;obtain⟨f,fd,ps,q1,q2,q3,q4⟩:=M c h e;rw[<-hK]at q1 q2 q3 q4;exact⟨k,f,fd,ps,[],q1,q2,q4,hr,q3,.nil,zD⟩
theorem F6{g:Nat->Option (List D->Option D)}{pl:Sem Bool}(M:∀c h,g c=some h->yt G X.prog X.w X.mg X.base k m c h)(hr:qg k X.A)(ho:PE X o (tF G f))(ha:PA X (e::es) (tFA G a))(hK:X.K=G.K:=by rfl)
  (hst:az (e::es) X.env=(false,eval e X.env)::az es X.env:=by rfl) (hpl:(aZ pos (az es X.env)).any (·.1)=false:=by rfl)
  (ht:eval (.Call (.Attribute o m apos) (e::es) [] pos) X.env=(do
   let ov<-eval o X.env
   standAt apos.atName
   let (f,first)<-holding [ov] (getMethod ov m pl)
   callWith pos f first (aZ pos (az (e::es) X.env)) (backToKw pos (dj [] X.env))):=by rfl):
  PE X (.Call (.Attribute o m apos) (e::es) [] pos) (tF G (rE g m f a)):=Ky (E:=E0) (HC (dvs:=[]) (MT G g) (L9 M hr hK) ho ha hst hpl ht)
theorem DP{g:Nat->Option (List D->Option D)}{pl:Sem Bool}(M:∀c h,g c=some h->yt G X.prog X.w X.mg X.base k m c h)(hr:qg k X.A)(ho:PE X o (tF G f))(hK:X.K=G.K:=by rfl)
  (ht:eval (.Call (.Attribute o m apos) [] [] pos) X.env=(do
   let ov<-eval o X.env
   standAt apos.atName
   let (f,first)<-holding [ov] (getMethod ov m pl)
   callWith pos f first (aZ pos (az [] X.env)) (backToKw pos (dj [] X.env))):=by rfl):
  PE X (.Call (.Attribute o m apos) [] [] pos) (tF G (rE g m f pC)):=HD (E:=E0) (FW (dvs:=[]) (MT G g) (L9 M hr hK) ho ht)
end
section
variable{P:ar}{w:aq}{K:ak}{mg:Str->Option aa}{base:Heap}{x qual:Str}{st:Stmt}{f T:Addr}{fd:bA}{N ps:List Str}{k:Nat}{G:Bg}
abbrev vQ(P:ar)(w:aq)(K:ak)(mg:Str->Option aa)(base:Heap)(N:List Str)(qual:Str)(st:Stmt)(f:Addr)(cdv:aa)(A:aw)(outer:List Env)(s:ae)(H:Hp)(E:XK):Cx:=(By CX0 P w K mg base N qual (o4 st) f cdv A outer s H E).nox
theorem HV{n:Nat}{g:List D->Option D}{b:FS}(hg:g=fnD np n b)(hp:ps.length=np)(hN:N.length=n)(F:Fun K x qual st f fd)(S:qt N ps (o4 st))(body:∀(cdv:aa) (A:aw) (outer:List Env) (s:ae) (H:Hp) (E:XK),qg k (A.deeper (envOfC qual (o4 st) s.heap.objs.size f cdv))->PSs (vQ P w K mg base N qual st f cdv A outer s H E) (pA st) (tFS G b)):
  rJ P w K mg base CX0 (k+1) f fd ps (spF G g):=by
 subst hg hp hN;exact F.ok S (QV Ks) λcdv A outer s H vs Q E hr h=>⟨_,body cdv A outer s H E hr,Kq (by have:=aX cP S.pre;rw[bL]at this;omega) h⟩
theorem Q7{n:Nat}{g:List D->Option (List D)}{b:FS}(hg:g=fnN np n b)(hp:ps.length=np)(hN:N.length=n)(F:Fun K x qual st f fd)(S:qt N ps (o4 st))(body:∀(cdv:aa) (A:aw) (outer:List Env) (s:ae) (H:Hp) (E:XK),qg k (A.deeper (envOfC qual (o4 st) s.heap.objs.size f cdv))->PSs (vQ P w K mg base N qual st f cdv A outer s H E) (pA st) (tFS G b)):
  rJ P w K mg base CX0 (k+1) f fd ps (spN G g):=by
 subst hg hp hN;exact F.ok S (QW Kt) λcdv A outer s H vs Q E hr h=>⟨_,body cdv A outer s H E hr,Kr (by have:=aX cP S.pre;rw[bL]at this;omega) h⟩
theorem Q8{n:Nat}{g:List D->List D->Option (D×List D)}{b:FS}{p:Str}{ps:List Str}(hg:g=fnM np n b)(hp:ps.length=np)(hN:N.length=n)(F:Fun K x qual st f fd)(S:qt N (p::ps) (o4 st))(body:∀(cdv:aa) (A:aw) (outer:List Env) (s:ae) (H:Hp) (E:XK),qg k (A.deeper (envOfC qual (o4 st) s.heap.objs.size f cdv))->PSs (vQ P w K mg base N qual st f cdv A outer s H E) (pA st) (tFS G b)):
  rJ P w K mg base CX0 (k+1) f fd (p::ps) (spM G g):=by
 subst hg hp hN;exact F.ok S (QY KE) λcdv A outer s H vs Q E hr h=>⟨_,body cdv A outer s H E hr,KD (by have:=aX cP S.pre;rw[bL,aA]at this;omega) h⟩
theorem Ma{g:List D->Option (List Str×List D)}(hg:∀ds q,g ds=some q->ds.length=np):∀vs H Q E,spI G c g vs H Q E->vs.length=np+1:=λvs H Q E h=>by obtain⟨p,dx,us,H0,ds,ns,es,rfl,_,_,_,r,e,_⟩:=h;rw[aA,<- oM r,hg _ _ e]
theorem Q9{n:Nat}{g:List D->Option (List Str×List D)}{b:FS}{p:Str}{ps:List Str}(hg:g=fnI c np n b)(hp:ps.length=np)(hN:N.length=n)(F:Fun K x qual st f fd)(S:qt N (p::ps) (o4 st))(body:∀(cdv:aa) (A:aw) (outer:List Env) (s:ae) (H:Hp) (E:XK),qg k (A.deeper (envOfC qual (o4 st) s.heap.objs.size f cdv))->PSs (vQ P w K mg base N qual st f cdv A outer s H E) (pA st) (tFS G b)):
  rJ P w K mg base CX0 (k+1) f fd (p::ps) (spI G c g):=by
 subst hg hp hN;exact F.ok S (Ma λds q h=>(zM h).1) λcdv A outer s H vs Q E hr h=>⟨_,body cdv A outer s H E hr,BO (by have:=aX cP S.pre;rw[bL,aA]at this;omega) h⟩
theorem NZ{n:Nat}{g:List D->Option (List Str×List D)}{b:FS}{p:Str}{ps:List Str}(hg:g=fnI c np n b)(hp:ps.length=np)(hN:N.length=n)(F:FQ K x qual st f fd T)(S:qt N (p::ps) (o4 st))(body:∀(cdv:aa) (A:aw) (outer:List Env) (s:ae) (H:Hp) (E:XK),qg k (A.deeper (envOfC qual (o4 st) s.heap.objs.size f cdv))->PSs (vQ P w K mg base N qual st f cdv A outer s H E) (pA st) (tFS G b)):
  rJ P w K mg base CX0 (k+1) f fd (p::ps) (spI G c g):=by
 subst hg hp hN;exact F.ok S (Ma λds q h=>(zM h).1) λcdv A outer s H vs Q E hr h=>⟨_,body cdv A outer s H E hr,BO (by have:=aX cP S.pre;rw[bL,aA]at this;omega) h⟩
end
section
variable{X:Cx}{G:Bg}
def wu(G:Bg)(mg:Str->Option aa)(x:Str)(d:D):Prop:=∃(v:V) (u:aa),mg x=some u/\RelV v u/\∀H,Rep G H d v
theorem HW{x:Str}{d:D}(h:wu G X.mg x d)(hg:Gl X x:=by rfl)(hd:(x==("__debug__" : Str))=false:=by decide):PE X (.Name x pos) (tF G (cC d)):=by obtain⟨v,u,h1,h2,h3⟩:=h;exact Kb (Eg hg h1 h2 hd) h3
def ue(i:Nat)(j:Int)(f:FE):FS:=λρ=>match f ρ with
 |some (d,ρ1)=>match qL ρ1 i with
  |some ds=>match ixN ds.length j with
   |some k=>some (.nx (putAt ρ1 i (ds.set k d)))
   |none=>none
  |none=>none
 |none=>none
theorem F7{st:Stmt}{j:Int}(h:PS X st (yf (tF G f) (Qs (vH i) (tC (.int j)) LW))):PS X st (tFS G (ue i j f)):=PS.weak h λE σ H hh=>by
 obtain⟨F,ρ,H0,o,R,e,k,k2⟩:=hh;unfold ue at e;rcases o9 (f:=f) (ρ:=ρ)with e1|⟨d,ρ1,e1⟩<;>simp only[e1]at e
 ·cases e
 cases e2:qL ρ1 i with
 |none=>simp only[e2]at e;cases e
 |some ds=>
  simp only[e2]at e;cases e3:ixN ds.length j with
  |none=>simp only[e3]at e;cases e
  |some m=>simp only[e3]at e;cases e;refine⟨F,ρ,H0,d,ρ1,R,e1,λv H1 H1' s R' r=>?_⟩;obtain⟨a,xs,s1,s2,s3,s4⟩:=sD R' e2;exact⟨.ref a,s1,a,xs,j,m,rfl,rfl,s2,by rw[<-oM s3];exact e3,k _ _ _ s (s4 _ _ (CB m s3 r))⟩
def qF(T:String):Ty->Option Bool
 |.b n=>if n="NoneType" then some false else if n="bool" then some (T=="bool" ||T=="int")else if n="int" then some (T=="int")else if n="str" then some (T=="str")else if n="tuple" then some (T=="tuple")else if n="list" then some (T=="list")else if n="dict" then some (T=="dict")else none
 |.c _=>none
theorem HX{T:String}:∀k b,qF T (.c k)=some b->F3 X.K (G.ca k):=λk b h=>by cases h
theorem HY:∀y b,qF "list" y=some b->cv X.K (y.val G) (.type "list")=some b:=λy b h=>by
 cases y with
 |c k=>cases h
 |b n=>
  unfold qF at h;simp only at h
  iterate 7 (split at h;· rename_i e;subst e;cases h;first|rfl|kernel_rfl)
  cases h
theorem KR:∀y b,qF "str" y=some b->cv X.K (y.val G) (.type "str")=some b:=λy b h=>by
 cases y with
 |c k=>cases h
 |b n=>
  unfold qF at h;simp only at h
  iterate 7 (split at h;· rename_i e;subst e;cases h;first|rfl|kernel_rfl)
  cases h
end
end L4
namespace L3
open PySem PySem.Spec PyProof.Rows L2
theorem KU{X:Cx}{i:Nat}{y:Str}{py spos:Pos}{elt iter tg:Expr}{ifs:List Expr}{scope:bZ}{pos:Pos}{N':List Str}{k:Nat}{cap:List Nat}{wi:TI}{g:TG}{tt:TT}{te:TE}
  (hc:X.calm=true) (hN:X.N.Nodup) (hy:X.N[i]?=some y) (hyl:Loc X.env.scope y) (hi:PI X tg iter wi)
  (body:∀(cl:List (Str×Addr)) (C:Addr) (fp:List Addr) (s:ae) (H:Hp),PG (qd X N' scope cl C fp s H) tg g/\PIf (qd X N' scope cl C fp s H) ifs tt/\PE (qd X N' scope cl C fp s H) elt te)
  (hkind:scope.kind=.function:=by rfl) (hcell:(scope.names.all λy=>y.2 != .cell)=true:=by rfl)
  (hloc:(scope.names.all λy=>y.2 != .local||scope.names.lookup y.1==some .local)=true:=by rfl)
  (hfree:(scope.names.all λy=>y.2 != .free||(X.env.kindOf y.1==some .cell||X.env.kindOf y.1==some .free))=true:=by rfl)
  (hlen:N'.length=k+cap.length:=by rfl) (hcap:(N'.drop k).map some=cap.map λj=>X.N[j]?:=by rfl)
  (hcf:((N'.drop k).all λx=>scope.names.lookup x==some .free)=true:=by rfl)
  (hs:∀x,fB iter X.env x=pure x:=by intro _;rfl)
  (hsw:cj (.ListComp elt [⟨tg,iter,ifs,0⟩] scope pos) (some (.Name y py)) spos.line X.env=pure true:=by rfl)
  (hfy:X.fn y=true\/X.env.scope.names.lookup y=some .local:=by first|exact .inl rfl|exact .inr rfl|assumption):
  PS X (.Assign [.Name y py] (.ListComp elt [⟨tg,iter,ifs,0⟩] scope pos) spos) (yf (zH wi g tt te k cap) (uA i)):=by
 intro pins s σ H D I h;rw[exec_Assign_Name_used _ _ _ _ hsw];refine aj (i5 (aj ?_));show af _ X.A (do let _<-comprehension (.ListComp elt [⟨tg,iter,ifs,0⟩] scope pos) scope X.env _ (newList []) false (eval iter X.env) (some (assign (.Name y py) X.env))) _ _ s;refine aj (bz (AW (P:=λ_ s'=>SP X pins D .next s') hc hi body hkind hcell hloc hfree hlen hcap hcf hs I h λa C m u s4 H3 hn back fpC qn=>?_) (λ_ s' hq=>ay (ay hq)) λ_ _ e=>e);obtain⟨oC,esC,nC,gC,dC,rC⟩:=id hn;have I7:=back.pinned (fp:=[C]) (λb hb=>bb.mp hb▸fpC) (λb hb=>bb.mp hb▸⟨oC,gC,λv z=>by rw[dC]at z;cases z⟩);show af _ X.A (assign (.Name y py) X.env (.ref a)) _ _ s4;refine thn (Ej (pos:=py) hN hy hyl hfy _ s4 σ H3 (.ref a) (.ref a) (λσ' H'=>D.nx σ' H') I7 rfl qn) λ_ s6 zz=>?_;obtain⟨σ6,H6,I8,q6⟩:=zz;obtain⟨p1,p2,_⟩:=I8.pin (C,oC) (bh _ (bh _ (tD (by simp) gC)));exact⟨m,⟨oC,esC,nC,p1,dC,rC⟩,λh' hs'=>⟨σ6,H6,I8.unpinned.turned (t':=s6.toks) (λb o hb e=>(hs'.2 b hb).trans e) p2 fpC.2.1 fpC.2.2.2.1 fpC.2.2.2.2.1 fpC.2.2.2.2.2,q6⟩⟩
end L3
namespace L4
open PySem PySem.Spec PyProof.Rows L2 L3
variable{te:TE}{i:Nat}{ft:FT}{fe:FE}
section
variable{X:Cx}{G:Bg}
theorem CS{st:Stmt}{te':TE}{g:TG}(h:PS X st (yf te g))(w:∀σ H Q,te' σ H Q->te σ H Q):PS X st (yf te' g):=PS.weak h λE σ H hh=>w _ _ _ hh
theorem HZ{st:Stmt}{k:Nat}{cap:List Nat}{s:FA}{g:FG}(nd:cap.Nodup)(h:PS X st (yf (zH (tFI G s) (tFG G k g) (tFT G ft) (tF G fe) k cap) (uA i))):PS X st (tFS G (pd i (cL (oT k cap s g ft fe)))):=EE (CS (CS h (EF nd)) QU)
end
variable{es0 es':List D}{np:Nat}
section
variable{f g h:FS}{c:FT}{e e' e2:FE}{a a':FA}{ρ ρ' ρ1 ρ2 ρ3:List Sl}{d x y z:D}{o:Out}{ds xs ys:List D}
theorem oG(h:f ρ=some (.nx ρ')):oK f g ρ=g ρ':=by unfold oK;rw[h]
theorem pZ(h:f ρ=some (.rt d ρ')):oK f g ρ=some (.rt d ρ'):=by unfold oK;rw[h]
theorem p6(h:c ρ=some (true,ρ')):sIf c f g ρ=f ρ':=by unfold sIf;rw[h]
theorem p7(h:c ρ=some (false,ρ')):sIf c f g ρ=g ρ':=by unfold sIf;rw[h]
theorem ph(h:e ρ=some (d,ρ')):pd i e ρ=some (.nx (ρ'.set i (.im d))):=by unfold pd;rw[h]
theorem EL(h:a ρ=some (ds,ρ')):tV i a ρ=some (.nx (ρ'.set i (.ls ds))):=by unfold tV;rw[h]
theorem qf(h:e ρ=some (d,ρ')):px e ρ=some (.rt d ρ'):=by unfold px;rw[h]
theorem wx(h:a ρ=some (ds,ρ')):qM a ρ=some (.rn ds ρ'):=by unfold qM;rw[h]
theorem tW(h:e ρ=some (d,ρ')):qD e ρ=some (.nx ρ'):=by unfold qD;rw[h]
theorem CT{k:Nat}{j:Int}(h:e ρ=some (d,ρ1))(h1:qL ρ1 i=some ds)(h2:ixN ds.length j=some k):ue i j e ρ=some (.nx (putAt ρ1 i (ds.set k d))):=by unfold ue;rw[h];simp only[h1,h2]
theorem oV{g:D->D->Option D}(h1:e ρ=some (x,ρ1))(h2:e' ρ1=some (y,ρ2))(h3:g x y=some z):c2 g e e' ρ=some (z,ρ2):=by unfold c2;rw[h1];simp only[h2,h3]
theorem pb{g:D->Option D}(h1:e ρ=some (x,ρ1))(h3:g x=some z):c1 g e ρ=some (z,ρ1):=by unfold c1;rw[h1];simp only[h3]
theorem DQ(h1:e (ρ.map Sl.bor)=some (d,ρ1))(hf:qE d=true):xI e ρ=some (d,ρ):=by unfold xI;rw[h1];simp only[hf,if_true]
theorem BR{b:Bool}(h1:c (ρ.map Sl.bor)=some (b,ρ1)):vz c ρ=some (b,ρ):=by unfold vz;rw[h1]
theorem pQ{b:Bool}(h1:e ρ=some (.bl b,ρ1)):cT e ρ=some (b,ρ1):=by unfold cT;rw[h1]
theorem zh{b:Bool}(h1:c ρ=some (b,ρ1)):ra c ρ=some (!b,ρ1):=by unfold ra;rw[h1]
theorem DR{b:Bool}{c':FT}(h1:c ρ=some (false,ρ1))(h2:c' ρ1=some (b,ρ2)):qK c c' ρ=some (b,ρ2):=by unfold qK;rw[h1];exact h2
theorem oR(h1:e ρ=some (d,ρ1))(h2:a ρ1=some (ds,ρ2)):aCons e a ρ=some (d::ds,ρ2):=by unfold aCons;rw[h1];simp only[h2]
theorem oX{α:Type}{g:List D->Option α}{r:α}(h1:a ρ=some (ds,ρ1))(h2:g ds=some r):yn g a ρ=some (r,ρ1):=by unfold yn;rw[h1];simp only[h2]
theorem pL(h1:a ρ=some (ds,ρ1)):cL a ρ=some (.lst ds,ρ1):=by unfold cL;rw[h1]
theorem yu(h1:a ρ=some (ds,ρ1))(hl:ds.length<=1000):oJ a ρ=some (ds,ρ1):=by unfold oJ;rw[h1];simp only[hl,if_true]
theorem N0(h1:a ρ=some (ds,ρ1))(hl:ds.length<=1000):sU a ρ=some (.tup ds,ρ1):=by unfold sU;rw[h1];simp only[hl,if_true]
theorem qP(h1:e ρ=some (.lst xs,ρ1))(h2:e' ρ1=some (.lst ys,ρ2))(hl:xs.length+ys.length<=1000):qa e e' ρ=some (xs++ys,ρ2):=by unfold qa;rw[h1];simp only[h2,hl,if_true]
theorem Ia{g:List D->List D->Option (D×List D)}{es:List D}(h0:qL ρ i=some es0)(h1:a ρ=some (ds,ρ1))(h2:qL ρ1 i=some es)(h3:g es ds=some (d,es')):pJ g i a ρ=some (d,putAt ρ1 i es'):=by unfold pJ;rw[h0];simp only[h1,h2,h3]
theorem yw{es:List D}(h0:qL ρ i=some es0)(h1:e ρ=some (d,ρ1))(h2:qL ρ1 i=some es)(hl:es.length<1000):vI i e ρ=some (.non,putAt ρ1 i (es++[d])):=by unfold vI;rw[h0];simp only[h1,h2,hl,if_true]
theorem pW{s:FA}{g:FG}(h1:s ρ=some (ds,ρ1)):q9 s g f ρ=forL g f ds ρ1:=by unfold q9;rw[h1]
theorem wz{k:Nat}{cap:List Nat}{s:FA}{g:FG}(h1:s ρ=some (ds,ρ1))(hl:ds.length<=1000):oT k cap s g ft fe ρ=sE k cap g ft fe ds ρ1:=by unfold oT;rw[h1];simp only[hl,if_true]
theorem BS{n:Nat}{b:FS}{es:List D}(hl:ds.length=np)(h:b (L4.stM n es ds)=some (.rt d ρ))(h0:xE ρ=some es'):fnM np n b es ds=some (d,es'):=by unfold fnM;rw[ah hl,h];simp only[h0]
theorem zV{n:Nat}{b:FS}{es:List D}(hl:ds.length=np)(h:b (L4.stM n es ds)=some (.rn xs ρ))(h0:xE ρ=some es'):fnM np n b es ds=some (.lst xs,es'):=by unfold fnM;rw[ah hl,h];simp only[h0]
theorem BU{n:Nat}{b:FS}(hl:ds.length=np)(h:b (L4.stE n ds)=some (.rn xs ρ)):fnN np n b ds=some xs:=by unfold fnN;rw[ah hl,h]
theorem pX{n:Nat}{b:FS}(hl:ds.length=np)(h:b (L4.stE n ds)=some (.rt d ρ)):fnD np n b ds=some d:=by unfold fnD;rw[ah hl,h]
end
def qG(es:List D):Prop:=(∃c,es=[.int c])\/∃q r n,es=[.int q,.int r,.int n]
theorem uG{a b:Int}(h:va a=true\/va b=true):uE (.int a) (.int b)=some (.int (a * b)):=by unfold uE dI;simp only;rw[ah (by simpa using h)]
theorem wC{a b:Int}(h:0<b):qZ (.int a) (.int b)=some (.int (a % b)):=by unfold qZ dI;simp only;rw[ah (by simpa using h)]
theorem div_pos{a b:Int}(h:0<b)(h':b<1073741824):vP (.int a) (.int b)=some (.int (a / b)):=by unfold vP dI;simp only;rw[ah (by simp[h,h'])]
theorem CU{a:Int}(h:0<=a)(h':a<2147483647):va a=true:=by unfold va;simp only[aE,bc];omega
def wK:D->Option Key
 |.int i=>some (.inl i)
 |.str x=>some (.inr x)
 |_=>none
def r6:List Key->List D->Key->Option D
 |k::ks,d::ds,j=>if k=j then some d else r6 ks ds j
 |_,_,_=>none
def KW(ks:List Key)(ds:List D)(k:Key)(d:D):List D:=eN (λk' d'=>if k'=k then d else d') ks ds
def zb(ks:List Key)(k:Key):Bool:=ks.any λk'=>decide (k'=k)
variable{a:Addr}{o:Obj}{kvs:List (Key×V)}{b tg e:Expr}{f fk:FE}{pos:Pos}
section
variable{X:Cx}{G:Bg}{H:Hp}
theorem xJ{d:D}{v:V}{k:Key}(h:Rep G H d v)(e:wK d=some k):v=kV k:=by
 cases d<;>first|cases e|skip
 all_goals (unfold Rep at h;exact h)
theorem zW:∀{ks:List Key} {ds:List D} {xs:List V} (j:Key),oN G H ds xs->ks.length=xs.length->match r6 ks ds j with
  |some d=>∃v,r9 (ks.zip xs) j=some v/\Rep G H d v
  |none=>r9 (ks.zip xs) j=none
 |[],ds,xs,j,r,l=>by cases ds<;>rfl
 |k::ks,ds,[],j,r,l=>by cases l
 |k::ks,[],x::xs,j,r,l=>by unfold oN at r;cases r
 |k::ks,d::ds,x::xs,j,r,l=>by
  unfold oN at r;obtain⟨v,q,e,h1,h2⟩:=r;cases e;unfold r6;by_cases hk:k=j
  ·rw[ah hk];exact⟨x,xy (p:=(k,x)) hk,h1⟩
  ·rw[ai hk];have ih:=zW (ks:=ks) (ds:=ds) (xs:=xs) j h2 (by simpa using l);have e1:r9 ((k::ks).zip (x::xs)) j=r9 (ks.zip xs) j:=xA (p:=(k,x)) hk;rw[e1];exact ih
theorem BV{k:Key}:∀{ks:List Key} {xs:List V},ks.length=xs.length->((ks.zip xs).any λkv=>decide (kv.1=k))=zb ks k
 |[],xs,_=>by cases xs<;>rfl
 |k'::ks,[],l=>by cases l
 |k'::ks,x::xs,l=>by unfold zb;rw[dw,dZ,dZ,BV (by simpa using l)];rfl
theorem EM{k:Key}{v:V}:∀{ks:List Key} {xs:List V},ks.length=xs.length->(ks.zip xs).map (λkv=>if kv.1=k then (kv.1,v)else kv)=ks.zip (eN (λk' x=>if k'=k then v else x) ks xs)
 |[],xs,_=>by cases xs<;>rfl
 |k'::ks,[],l=>by cases l
 |k'::ks,x::xs,l=>by
  rw[dw,aF,EM (by simpa using l),gf,dw];congr 1;by_cases hk:k'=k
  ·rw[ah hk,ah hk]
  ·rw[ai hk,ai hk]
theorem CV{k:Key}{d:D}{v:V}(hd:Rep G H d v):∀{ks:List Key} {ds:List D} {xs:List V},oN G H ds xs->ks.length=xs.length->oN G H (KW ks ds k d) (eN (λk' x=>if k'=k then v else x) ks xs)
 |[],ds,xs,r,l=>by unfold KW;cases ds<;>cases xs<;>exact pB
 |k'::ks,ds,[],r,l=>by cases l
 |k'::ks,[],x::xs,r,l=>by unfold oN at r;cases r
 |k'::ks,d'::ds,x::xs,r,l=>by
  unfold oN at r;obtain⟨w,q,e,h1,h2⟩:=r;cases e;unfold KW;rw[gf,gf];refine pI ?_ (CV hd h2 (by simpa using l));by_cases hk:k'=k
  ·rw[ah hk,ah hk];exact hd
  ·rw[ai hk,ai hk];exact h1
theorem _root_.L2.DGet.kf{H:Hp}{k:Key}(e:H a=some (.frz o (.dK kvs))):DGet H a (kV k) (r9 kvs k):=.inl ⟨kvs,k,.inr ⟨o,e⟩,rfl,rfl⟩
def qQ:D->D->Option D:=λx y=>match x,wK y with
 |.dic ks ds,some k=>r6 ks ds k
 |_,_=>none
theorem KY{a:Expr}{f':FE}(hu:X.A.units+1<cLine)(ha:PE X a (tF G f))(hb:PE X b (tF G f'))(hs:Ni b:=by exact λ_ _=>rfl):PE X (.Subscript a b pos) (tF G (c2 qQ f f')):=PE.weak (J0 hu ha hb hs) λσ H Q hh=>by
 obtain⟨F,ρ,H0,d,ρ',R,e,k⟩:=hh;obtain⟨x,y,ρ1,e1,e2,e3⟩:=xC e;refine⟨F,ρ,H0,x,ρ1,R,e1,λv H1 H1' s1 R1 r1=>⟨F,ρ1,H1,y,ρ',R1,e2,λu H2 H2' s2 R2 r2=>?_⟩⟩;have r1':=Rep.mono s2 _ _ r1;cases x with
 |dic ks ds=>
  unfold qQ at e3;cases ek:wK y with
  |none=>simp only[ek]at e3;cases e3
  |some j=>simp only[ek]at e3;unfold Rep at r1';obtain⟨p,ob,xs,rfl,h1,h2,h3⟩:=r1';have lv:=zW (ks:=ks) j h3 h2;rw[e3]at lv;obtain⟨w,w1,w2⟩:=lv;refine⟨p,w,rfl,?_,k w H2 H2' (s1.trans s2) R2 w2⟩;rw[xJ r2 ek,<- w1];exact DGet.kf (R2.sub _ _ h1)
 |_=>unfold qQ at e3;cases e3
def zX(i:Nat):FS:=λρ=>some (.nx (ρ.set i (.dk [] [])))
theorem Ib{st:Stmt}(h:PS X st (yf DH (uA i))):PS X st (tFS G (zX i)):=PS.weak h λE σ H hh=>by obtain⟨F,ρ,H0,o,R,e,k,k2⟩:=hh;cases e;intro p hp;have R1:=R.newOwn hp (.dK []);refine k _ _ _ (oW.refl _) (R1.set (s:=.dk [] []) ⟨p,[],rfl,oZ,R.h0none hp,R.bNone hp,rfl,pB⟩ λ_ a ea j t _ ej to=>?_);cases ea;exact R.apart hp j t ej to
def rQ(i:Nat)(fk fv:FE):FS:=λρ=>match fv ρ with
 |some (d,ρ1)=>match ρ1[i]? with
  |some (.dk _ _)=>match fk ρ1 with
   |some (y,ρ2)=>match wK y with
    |some k=>match ρ2[i]? with
     |some (.dk ks ds)=>if ks.length<1000 then if ds.length=ks.length then some (.nx (ρ2.set i (if zb ks k=true then .dk ks (KW ks ds k d)else .dk (ks++[k]) (ds++[d]))))else none else none
     |_=>none
    |none=>none
   |none=>none
  |_=>none
 |none=>none
theorem Ie{st:Stmt}{fv:FE}(h:PS X st (LZ (vH i) (tF G fk) (tF G fv))):PS X st (tFS G (rQ i fk fv)):=PS.weak h λE σ H hh=>by
 obtain⟨F,ρ,H0,o,R,e,k,k2⟩:=hh;unfold rQ at e;rcases o9 (f:=fv) (ρ:=ρ)with e1|⟨d,ρ1,e1⟩<;>simp only[e1]at e
 ·cases e
 split at e
 ·rename_i ks0 ds0 ei;rcases o9 (f:=fk) (ρ:=ρ1)with e2|⟨y,ρ2,e2⟩<;>simp only[e2]at e
  ·cases e
  cases ek:wK y with
  |none=>simp only[ek]at e;cases e
  |some j=>
   simp only[ek]at e;split at e
   ·rename_i ks ds ei2;split at e
    ·rename_i hl;split at e
     ·rename_i hl2;cases e;refine⟨F,ρ,H0,d,ρ1,R,e1,λv H1 H1' s1 R1 r1=>?_⟩;obtain⟨a0,xs0,a1,_⟩:=R1.sl i _ ei;refine⟨_,rM a1,F,ρ1,H1,y,ρ2,R1,e2,λu H2 H2' s2 R2 r2=>?_⟩;obtain⟨a,xs,b1,b2,b3,b4,b5,b6⟩:=R2.sl i _ ei2;rw[a1]at b1;cases b1;refine⟨a0,upd H2' a0 (.dK (putK (ks.zip xs) j v)),rfl,?_,?_⟩
      ·rw[xJ r2 ek];exact G4.k b2 (by rw[fK];exact iI (iX _ _) (wq (by omega)))
      ·have rv:=Rep.mono s2 _ _ r1;refine k _ _ _ (s1.trans s2) (R2.mut ei2 rfl a1 (λH' hH=>?_) ?_)
       ·by_cases hk:zb ks j=true
        ·rw[ah hk];refine⟨a0,eN (λk' x=>if k'=j then v else x) ks xs,rfl,?_,b3,b4,by rw[iz,b5,fO],CV rv b6 b5⟩;rw[hH];unfold putK;rw[BV b5,ah hk,EM b5]
        ·rw[ai hk];refine⟨a0,xs++[v],rfl,?_,b3,b4,by rw[au,au,b5];rfl,qh b6 (pI rv pB)⟩;rw[hH];unfold putK;rw[BV b5,ai hk,lA b5];rfl
       ·split<;>rfl
     ·cases e
    ·cases e
   ·cases e
 ·cases e
def zY:D->Option D
 |.lst ds=>(AK ds).map λbs=>.bl (bs.any id)
 |_=>none
theorem F8(hc:X.calm=true)(hK:X.K=G.K:=by rfl):qC X (.builtin "any") (λxs H Q=>∃(p:Addr) (bs:List Bool),xs=[.ref p]/\SqL G.K H p (bs.map V.bl)/\Q (.bl (bs.any id)) H):=by
 rw[<-hK];intro pins s σ H xs us Q I r h;obtain⟨p,bs,rfl,hq,q⟩:=h;obtain⟨u,rfl,ru⟩:=vals1 r;cases ru;obtain⟨its,rv,pl,hz⟩:=I.list hq;have hlt:p<s.heap.objs.size:=by obtain⟨o,ho,_⟩:=pl.isList;exact aJ ho
 have hl:bs.length=its.length:=by have:=rv.length;rw[ag]at this;exact this
 refine call_any_walk (fA pl.isList ⟨s.heap.objs.size,_,_,_,_,_,λi=>(bs[i]?).getD false,rfl,gZ (show X.A.in1.handled=none from I.ok.hd hc) _ p (aW hlt) its.toArray,⟨⟨_,bB _ rfl,rfl,rfl⟩,?_⟩,?_,λh' tk hk=>?_⟩)
 ·exact pl.isList.at λo e=>aM _ e
 ·intro i v s' Q' E' hv hQ';have hv':its[i]?=some v:=by simpa using hv
  have hi:i<its.length:=(br.mp hv').1;have hb:(bs.map V.bl)[i]?=some (.bl (bs[i]'(by omega))):=by simp[show i<bs.length by omega]
  obtain⟨u,hu,ru⟩:=rv.get hb;rw[hv']at hu;cases hu;cases ru;refine cz ?_;have e:(bs[i]?).getD false=bs[i]'(by omega):=by simp[show i<bs.length by omega]
  rw[<-e];exact hQ'
 ·refine⟨.bl (bs.any id),H,?_,?_,q⟩
  ·exact I.kept (t':=tk) λb o e=>hk b o (by simp;exact aW (aJ e)) (aM _ e)
  ·show Value.bool _=Value.bool _;congr 1;rw[aR,<- hl];rw[bS];simp only[cN,bN,id];constructor
   ·rintro⟨i,hi,h⟩;exact⟨bs[i],fG hi,by simpa [hi]using h⟩
   ·rintro⟨b,hb,h⟩;obtain⟨i,hi,rfl⟩:=dQ.mp hb;exact⟨i,hi,by simpa [hi]using h⟩
theorem N1:A1 G (λxs H Q=>∃(p:Addr) (bs:List Bool),xs=[.ref p]/\SqL G.K H p (bs.map V.bl)/\Q (.bl (bs.any id)) H) zY:=λx z H0 H v Q e s rx k=>by
 cases x with
 |lst ds=>
  unfold zY at e;simp only at e;cases e1:AK ds with
  |none=>rw[e1]at e;cases e
  |some bs=>rw[e1]at e;cases e;unfold Rep at rx;obtain⟨a,xs,rfl,h1,h2⟩:=rx;rw[zT h2 e1]at h1;exact⟨a,bs,rfl,s.seq (SqL.of h1),k _ λ_ _=>qp _⟩
 |_=>cases e
def iS(f:FE):FA:=λρ=>match f ρ with
 |some (.str x,ρ')=>some (x.cps.toList.map λc=>D.str ⟨#[c]⟩,ρ')
 |_=>none
theorem KZ(h:PI X tg e (QN (tF G f))):PI X tg e (tFI G (iS f)):=PI.weak h λσ H R hh=>by
 obtain⟨F,ρ,H0,ds,ρ',R,e,k⟩:=hh;unfold iS at e;split at e
 ·rename_i x ρ1 e1;cases e;refine⟨F,ρ,H0,_,_,R,e1,λv H1 H1' s R' r=>?_⟩;unfold Rep at r;refine⟨x,r,k _ _ _ s R' λi H2 H2' t t'=>⟨λd ed=>?_,λhl=>?_⟩⟩
  ·rw[aY]at ed;cases ec:x.cps.toList[i]? with
   |none=>rw[ec]at ed;cases ed
   |some c=>
    rw[ec]at ed;cases ed;have ec':x.cps[i]?=some c:=by simpa using ec
    refine⟨(fX.mp ec').1,λz H3 y=>?_⟩;obtain⟨e3,c',hc',rfl⟩:=y;rw[ec']at hc';cases hc';subst e3;exact⟨H2,oW.refl _,t',oW.refl _,λb o e=>.inl e,wt _⟩
  ·show i=x.cps.size;rw[hl,ag];simp
 ·cases e
def vR(f g:FE):FE:=λρ=>match f ρ with
 |some (.tup (x::xs),ρ1)=>match g ρ1 with
  |some (.tup ys,ρ2)=>if xs.length+ys.length<=900 then some (.tup (x::xs++ys),ρ2)else none
  |_=>none
 |_=>none
theorem K1{a:Expr}{g:FE}(ha:PE X a (tF G f))(hb:PE X b (tF G g))(hK:X.K=G.K:=by rfl):PE X (.BinOp a .Add b pos) (tF G (vR f g)):=PE.weak (El Eu ha hb) λσ H Q hh=>by
 rw[hK];obtain⟨F,ρ,H0,d,ρ',R,e,k⟩:=hh;unfold vR at e;split at e
 ·rename_i x xs ρ1 e1;split at e
  ·rename_i ys ρ2 e2;split at e
   ·rename_i hl;cases e;refine⟨F,ρ,H0,_,ρ1,R,e1,λv H1 H1' s R' r=>⟨F,ρ1,H1,_,_,R',e2,λu H2 H2' s2 R2 r2=>?_⟩⟩;have r':=Rep.mono s2 _ _ r;have r0:=r';unfold Rep at r' r2;obtain⟨a1,xs1,rfl,h1,h2⟩:=r';obtain⟨a2,xs2,rfl,h3,h4⟩:=r2;have l1:=oM h2;have l2:=oM h4;rw[aA]at l1;refine⟨a1,a2,xs1,xs2,rfl,rfl,SqT.mono R2.sub h1,SqT.mono R2.sub h3,(λz=>by rw[z]at l1;cases l1),by rw[<-l1,<- l2];exact rj (by omega),λz=>?_,λ_ p hp=>?_⟩
    ·have ey:ys=[]:=by rw[z]at l2;exact ig.mp l2
     subst ey;rw[bH]at k;exact k _ _ _ (s.trans s2) R2 r0
    ·exact k _ _ _ ((s.trans s2).trans (o6 (R2.h0none hp) _)) (R2.newIm hp _) (uY (SqT.of oZ) (oN.mono (o6 (R2.h0none hp) _) _ _ (qh h2 h4)))
   ·cases e
  ·cases e
 ·cases e
end
section
variable{X:Cx}{G:Bg}
abbrev FO:=List Sl->Option (Option Int×List Sl)
def tFO(G:Bg)(f:FO):TO:=λσ H Q=>∃F ρ H0 d ρ',o8 G F σ ρ H0 H/\f ρ=some (d,ρ')/\∀H0' H',oW H0 H0'->o8 G F σ ρ' H0' H'->Q d H'
def oNo:FO:=λρ=>some (none,ρ)
def oAt(f:FE):FO:=λρ=>match f ρ with
 |some (.int i,ρ')=>some (some i,ρ')
 |_=>none
theorem PO.weak{e:Option Expr}{t t':TO}(h:PO X e t)(w:∀σ H Q,t' σ H Q->t σ H Q):PO X e t':=λpins s σ H Q I hq=>h pins s σ H Q I (w _ _ _ hq)
theorem N2:PO X none (tFO G oNo):=PO.weak Es λσ H Q hh=>by obtain⟨F,ρ,H0,d,ρ',R,e,k⟩:=hh;cases e;exact k _ _ (oW.refl _) R
theorem N3(h:PE X e (tF G f)):PO X (some e) (tFO G (oAt f)):=PO.weak (Et h) λσ H Q hh=>by
 obtain⟨F,ρ,H0,d,ρ',R,e,k⟩:=hh;unfold oAt at e;split at e
 ·rename_i i ρ1 e1;cases e;refine⟨F,ρ,H0,_,_,R,e1,λv H1 H1' s R' r=>?_⟩;unfold Rep at r;exact⟨i,r,k _ _ s R'⟩
 ·cases e
def xa(f:FE)(lo hi:FO):FA:=λρ=>match f ρ with
 |some (d,ρ1)=>match d with
  |.lst ds=>match lo ρ1 with
   |some (l,ρ2)=>match hi ρ2 with
    |some (h,ρ3)=>some (cutD ds l h,ρ3)
    |none=>none
   |none=>none
  |.fzl ds=>match lo ρ1 with
   |some (l,ρ2)=>match hi ρ2 with
    |some (h,ρ3)=>some (cutD ds l h,ρ3)
    |none=>none
   |none=>none
  |_=>none
 |none=>none
theorem DS{lo hi:FO}(h:PE X e (tSl (JW G.K) (tF G f) (tFO G lo) (tFO G hi))):PE X e (tFN G (xa f lo hi)):=PE.weak h λσ H Q hh=>by
 obtain⟨F,ρ,H0,ds,ρ',R,e,k⟩:=hh;unfold xa at e;rcases o9 (f:=f) (ρ:=ρ)with e1|⟨d,ρ1,e1⟩<;>simp only[e1]at e
 ·cases e
 have gen:∀(xs:List D),(∀{H1:Hp} {v:V},Rep G H1 d v->∃a ys,v=.ref a/\SqL G.K H1 a ys/\oN G H1 xs ys)->(match lo ρ1 with
   |some (l,ρ2)=>match hi ρ2 with
    |some (h,ρ3)=>some (cutD xs l h,ρ3)
    |none=>none
   |none=>none)=some (ds,ρ')->tSl (JW G.K) (tF G f) (tFO G lo) (tFO G hi) σ H Q:=λxs rd e=>by
  rcases o9 (f:=lo) (ρ:=ρ1)with e2|⟨l,ρ2,e2⟩<;>simp only[e2]at e
  ·cases e
  rcases o9 (f:=hi) (ρ:=ρ2)with e3|⟨u,ρ3,e3⟩<;>simp only[e3]at e
  ·cases e
  cases e;refine⟨F,ρ,H0,d,ρ1,R,e1,λv H1 H1' s1 R1 r1=>⟨F,ρ1,H1,l,ρ2,R1,e2,λH2 H2' s2 R2=>⟨F,ρ2,H2,u,_,R2,e3,λH3 H3' s3 R3=>?_⟩⟩⟩;obtain⟨a,ys,rfl,q1,q2⟩:=rd (Rep.mono (s2.trans s3) _ _ r1);exact⟨a,ys,rfl,R3.sub.seq q1,λp hp=>k p _ _ _ (s1.trans (s2.trans s3)) (R3.newOwn hp _) oZ (R3.h0none hp) (R3.bNone hp) (R3.apart hp) (zU q2)⟩
 cases d with
 |lst xs=>exact gen xs (λr=>by unfold Rep at r;obtain⟨a,ys,rfl,q1,q2⟩:=r;exact⟨a,ys,rfl,SqL.of q1,q2⟩) e
 |fzl xs=>exact gen xs (λr=>by unfold Rep at r;exact r) e
 |_=>cases e
def zc(neg:Bool):D->D->Option D:=λy x=>match x,wK y with
 |.dic ks ds,some k=>some (.bl (if neg then !(r6 ks ds k).isSome else (r6 ks ds k).isSome))
 |_,_=>none
end
section
variable{X:Cx}{G:Bg}
def BW:FE:=λ_=>none
theorem Ig:PE X e (tF G BW):=λpins s σ H Q I h=>by obtain⟨F,ρ,H0,d,ρ',R,e,_⟩:=h;cases e
def DT(G:Bg)(c:Nat)(t:Ty->Option Bool):Prop:=(∀y b,t y=some b->cv G.K (y.val G) (.ref (G.ca c))=some b)/\∀j b,t (.c j)=some b->F3 G.K (G.ca j)
theorem DU{c:Nat}{t:Ty->Option Bool}(h:DT G c t)(hK:X.K=G.K:=by rfl):qC X (.builtin "isinstance") (λxs H Q=>∃d x b,xs=[x,(Ty.c c).v G]/\Rep G H d x/\t (tyD d)=some b/\Q (.bl b) H):=
 A2 (X:=X) (.c c) (by rw[hK];exact h.1) (by rw[hK];exact h.2) hK
end
def ddp(acc:List Key)(k:Key):List Key:=if acc.any (λz=>decide (z=k))then acc else acc++[k]
def tG(ks:List Key):List Key:=ks.foldl ddp []
theorem K2(acc:List Key)(k j:Key):(ddp acc k).any (λz=>decide (z=j))=(acc.any (λz=>decide (z=j))||decide (j=k)):=by
 unfold ddp;by_cases h:acc.any (λz=>decide (z=k))=true
 ·rw[ah h];by_cases e:j=k
  ·subst e;rw[h];simp
  ·simp[e]
 ·rw[ai h,List.any_append];by_cases e:j=k
  ·subst e;simp
  ·have hb:¬k=j:=λz=>e z.symm;simp[hb,e]
theorem EN(acc:List Key)(k:Key):(ddp acc k).length=if acc.any (λz=>decide (z=k))=true then acc.length else acc.length+1:=by unfold ddp;split<;>simp
theorem A3(ks:List Key)(i:Nat)(h:i<ks.length):tG (ks.take (i+1))=ddp (tG (ks.take i)) ks[i]:=by unfold tG;rw[kM,aQ h,iN];rfl
theorem Ih(ks:List Key):(tG ks).length<=ks.length:=by
 have gen:∀(l:List Key) (acc:List Key),(l.foldl ddp acc).length<=acc.length+l.length:=by
  intro l
  induction l with
  |nil=>intro acc;simp
  |cons k l ih=>
   intro acc;rw[cA,aA];have h1:=ih (ddp acc k);have h2:(ddp acc k).length<=acc.length+1:=by rw[EN];split<;>omega
   omega
 have:=gen ks [];simpa [tG]using this
theorem set_same{prog:ar}{w:aq}{h:Heap}{S S':Key->Bool}{n n':Nat}(hS:h.SetOf (o7 prog w) a S n)(e:∀k,S k=S' k)(en:n=n'):h.SetOf (o7 prog w) a S' n':=by obtain rfl:S=S':=funext e;subst en;exact hS
section
variable{prog:ar}{w:aq}{A:aw}{R:cW->ae->Prop}{I:Addr}{fp wr:List Addr}{GG:Array eA->Array eA->Prop}{n:Nat}{PP:Nat->aa->Prop}{SS:Nat->ae->Prop}
theorem Ii(W:WalksS prog w A.in1 I fp wr GG n PP SS)(S:Addr)(hSf:S∉fp)(ks:List Key)(hn:ks.length=n)
  (hval:∀i v (h:i<ks.length),PP i v->(o7 prog w).is ks[i] v=true/\v.scannable=true) (hb:n+1<scanBound):∀(k i:Nat) (s:ae),n - i=k->i<=n->SS i s->
   s.heap.SetOf (o7 prog w) S (λj=>(tG (ks.take i)).any (λz=>decide (z=j))) (tG (ks.take i)).length->
   (∀s',Moved (S::wr) GG s s'->s'.heap.SetOf (o7 prog w) S (λj=>(tG ks).any (λz=>decide (z=j))) (tG ks).length->R (.ok (.ret .none)) s')->
   bY (model prog w) A (.builtin "set.update.loop" ⟨[.ref S,.ref I],[]⟩) R s:=by
 have hSw:S∉wr:=λz=>hSf (W.sub _ z);have up:∀b∈wr,b∈S::wr:=λb z=>aH _ z;intro k
 induction k with
 |zero=>
  intro i s hk hi hst hS hR;obtain rfl:i=n:=by omega
  refine eG f9 ?_;rw[fo dO _];show af _ A.in1 (pyNext (.ref I)>>=_) _ _ s;refine aj (W.done s _ _ hst λs' hm=>?_);show af _ A.in1 (ret Value.none) _ _ s';rw[ik (by omega)]at hS;refine ay (hR s' (hm.mono up) ?_);obtain⟨o,es,ep,t,ho,more⟩:=hS;exact⟨o,es,ep,t,hm.heap S _ hSw ho,more⟩
 |succ k ih=>
  intro i s hk hi hst hS hR;have hlt:i<n:=by omega
  have hlk:i<ks.length:=by omega
  refine eG f9 ?_;rw[fo dO _];show af _ A.in1 (pyNext (.ref I)>>=_) _ _ s;refine aj (W.item i s _ _ hlt hst λv s' hP hst' hm=>?_);obtain⟨kv,sc⟩:=hval i v hlk hP;have hS':s'.heap.SetOf (o7 prog w) S (λj=>(tG (ks.take i)).any (λz=>decide (z=j))) (tG (ks.take i)).length:=by obtain⟨o,es,ep,t,ho,more⟩:=hS;exact⟨o,es,ep,t,hm.heap S _ hSw ho,more⟩
  show af _ A.in1 (holding [v] (setAdd S v)>>=_) _ _ s';refine aj (cp ?_);unfold setAdd;refine cp ?_;refine aj ((o7 prog w).pyHash (k:=ks[i]) kv ?_);have room:(tG (ks.take i)).length+1<scanBound:=by have:=Ih (ks.take i);rw[bL]at this;omega
  refine wpAny_setAddHashed_of (knd:=o7 prog w) (s:={ s' with toks:=s'.toks+1 }) kv sc hS' room λh' hsb hS2=>?_;have hSi:h'.SetOf (o7 prog w) S (λj=>(tG (ks.take (i+1))).any (λz=>decide (z=j))) (tG (ks.take (i+1))).length:=
   set_same hS2 (λj=>by rw[A3 ks i hlk,K2]) (by rw[A3 ks i hlk,EN])
  refine ay ⟨gE dO _,ih (i+1) _ (by omega) hlt (W.frame _ s' _ _ hst' (gS _) λb z o e=>?_) hSi λs'' hm'' hS''=>?_⟩
  ·rw[hsb.2 b (λy:b=S=>hSf (by rw[<-y];exact z))];exact e
  ·refine hR s'' (js W.gtrans ((hm.mono up).then_heap (gS _) λb o z e=>?_) hm'') hS'';rw[hsb.2 b (λy:b=S=>z (by rw[y];exact aG))];exact e
end
theorem K3(l:Addr)(us:Array aa)(m:Nat)(b:Addr)(o:Obj)(ws:Array aa)(m2:Nat)(hc:o.cls=.type "tuple")(hd:o.data=.seq ws m2)(z0:¬(!us.isEmpty&&eX (us.size+ws.size))=true)(z1:us.size<=aB)(z2:us.size+ws.size<=aB+1):
  Meets (Builtin.«list.extend» ⟨[.ref l,.ref b],[]⟩) (λ_ R s=>s.heap.get? l=some { cls:=.type "list", data:=.seq us m }/\s.heap.get? b=some o/\R (.ok (.ret Value.none)) { s with heap:=s.heap.update l (eP λx=>x++ws),toks:=s.toks }):=by
 obtain⟨c,dd,data,sl⟩:=o;cases hc;cases hd;refine .of_wp λprog w A R s h=>?_;obtain⟨hp,g,d,tk,os⟩:=s;obtain⟨hl,hb,h⟩:=h;have f2:=AutoSeq1.sub_tuple_tuple;have f3:=AutoSeq1.sub_list_list;have f4:=AutoSeq1.sub_tuple_list;have f5:=AutoSeq1.sub_list_tuple;have z3:(us++ws).size<=aB+1:=Array.size_append (xs:=us) (ys:=ws)▸z2
 wp_walk using (wpAny_updateSeq hl rfl (hz:=z1) (_hz':=z3)),jI hl,jI hb
 exact⟨_,rfl,h⟩
section
variable{X:Cx}{G:Bg}
def CW(K:ak):V->List V->Hp->VK->Prop:=λx vs H Q=>∃l b xs zs,x=.ref l/\vs=[.ref b]/\H l=some (.lst xs)/\SqT K H b zs/\xs.length+zs.length<=aB/\Q .non (upd H l (.lst (xs++zs)))
theorem DV:MtM X "list.extend" (CW X.K):=by
 intro pins s σ H x vs v us Q I rx rv h;obtain⟨l,b,xs,zs,rfl,rfl,hH,hB,hz,q⟩:=h;cases rx;obtain⟨u,rfl,ru⟩:=rv.one;cases ru;obtain⟨z,its,n,r,hl,e⟩:=I.lstM hH;obtain⟨its2,r2,⟨o,e2,hc,n2,hd⟩,hz2⟩:=I.tuple hB;have hl2:=r2.length;have hsz:its.toArray.size+its2.toArray.size<=aB:=by rw[aR,aR];omega
 have hlong:¬(!its.toArray.isEmpty&&eX (its.toArray.size+its2.toArray.size))=true:=by rw[Cr hsz,lI];exact ba
 refine gY gm ⟨_,e,rfl⟩ ko (j5 _ _)
  (K3 l its.toArray n b o its2.toArray n2 hc hd hlong (by rw[aR];omega) (by omega)) ⟨e,e2,?_⟩
 refine⟨.non,_,I.lset (its':=its++its2) hH e (by simp) (r.append r2) ?_,rfl,q⟩;rw[au];omega
def vS(i:Nat)(f:FE):FE:=λρ=>match qL ρ i with
 |some _=>match f ρ with
  |some (.tup es,ρ1)=>match qL ρ1 i with
   |some ds=>if ds.length+es.length<=1000 then some (.non,putAt ρ1 i (ds++es))else none
   |none=>none
  |_=>none
 |none=>none
theorem DW(h:PE X e (tBM G.K "list" (CW G.K) (vH i) (zv (tF G f) Cn))):PE X e (tF G (vS i f)):=PE.weak h λσ H Q hh=>by
 obtain⟨F,ρ,H0,d,ρ',R,e,k⟩:=hh;unfold vS at e;cases e0:qL ρ i with
 |none=>simp only[e0]at e;cases e
 |some ds0=>
  simp only[e0]at e;rcases o9 (f:=f) (ρ:=ρ)with e1|⟨x,ρ1,e1⟩<;>simp only[e1]at e
  ·cases e
  ·cases x with
   |tup es=>
    cases e2:qL ρ1 i with
    |none=>simp only[e2]at e;cases e
    |some ds=>
     simp only[e2]at e;split at e
     ·rename_i hl;cases e;obtain⟨a,xs,s1,s2,s3,_⟩:=sD R e0;refine⟨.ref a,s1,.inl ⟨rfl,xs,SqL.of s2⟩,F,ρ,H0,_,ρ1,R,e1,λv H1 H1' s R' rs=>?_⟩;unfold Rep at rs;obtain⟨p,ys,rfl,hp,rs⟩:=rs;obtain⟨a',xs',t1,t2,t3,t4⟩:=sD R' e2;rw[s1]at t1;cases t1;refine⟨a,p,xs',ys,rfl,rfl,t2,SqT.mono R'.sub hp,?_,k _ _ _ s (t4 _ _ (qh t3 rs)) xB⟩;rw[<-oM t3,<- oM rs];exact rj hl
     ·cases e
   |_=>cases e
end
abbrev one(j:Nat)(led pl:Bool):bq:=⟨7,#[j],#[],0,led,0,pl⟩
variable{ks:List Key}
section
variable{prog:ar}{w:aq}{A:aw}{E:aa->ae->Prop}{s:ae}
abbrev TK(prog:ar)(w:aq):=IsTupleKey (o7 prog w)
theorem cls_val(n:Nat){v:aa}(h:iZ v=true):fD n v=pure false:=by
 cases v with
 |ref a=>simp[iZ]at h
 |_=>first|rfl|simp[fD]|(unfold fD;rfl)
theorem EO{Q:Bool->ae->Prop}(hk:TK prog w s.heap ks a)(h:Q false s):af (model prog w) A (fD 8 (.ref a)) Q E s:=by
 have hT:=hk.typeIs;obtain⟨o,items,n,ho,_,hd,hi⟩:=hk;unfold fD;refine aj (gL hT ?_);show af _ _ (pure true>>=_) _ _ s;refine aj (ay ?_);simp only[Bool.not_true,fz,if_false];refine aj (lL ho hd ?_);refine aj ?_;show af _ _ (forIn items _ _) _ _ s;rw[<-kC];refine iV _ (λrest r s'=>r.1=none/\s'=s/\∀v∈rest,iZ v=true) _ ?_ ?_ _ _ ⟨rfl,rfl,hi.byValue⟩
 ·rintro v rest r s' ⟨hr,rfl,hall⟩;rw[cls_val _ (hall v aG)];refine aj (ay ?_);simp only[fz,if_false];exact ay ⟨rfl,rfl,λu hu'=>hall u (aH _ hu')⟩
 ·rintro⟨r1,r2⟩ s' ⟨hr,rfl,_⟩;simp only at hr;subst hr;exact ay h
end
variable{ep:Nat}
section
variable{prog:ar}{w:aq}{A:aw}{E:aa->ae->Prop}{s:ae}
theorem Ik{hp:Heap}{S:Addr}{es es':Array (Int×aa)}{t t':bq}(ho:hp.get? S=some o)(hd:o.data=.set es ep t):(hp.update S (jy es' t')).get? S=some { o with data:=.set es' (ep+1) t' }:=by have:=j1 (jy es' t') ho (by rw[putSet_of es' t' hd];rfl);rw[putSet_of es' t' hd]at this;exact this
end
section
variable{prog:ar}{w:aq}{A:aw}{R:cW->ae->Prop}{I:Addr}{fp wr:List Addr}{GG:Array eA->Array eA->Prop}{PP:Nat->aa->Prop}{SS:Nat->ae->Prop}
theorem TK.kept{h h':Heap}(t:TK prog w h ks a)(e:∀o,h.get? a=some o->h'.get? a=some o):TK prog w h' ks a:=by obtain⟨o,its,n,ho,m⟩:=t;exact⟨o,its,n,e o ho,m⟩
def Rb(h:Heap)(S:Addr)(n:Nat):Prop:=∃o es ep t,h.get? S=some o/\o.ExactSet/\o.data=.set es ep t/\es.size<scanBound/\t.fits es.size=true/\es.size=n
end
theorem sub_tuple_set:isSubtype (.type "tuple") (.type "set")=pure false:=by rw[lN];kernel_rfl
theorem sub_tuple_frozenset:isSubtype (.type "tuple") (.type "frozenset")=pure false:=by rw[lN];kernel_rfl
variable{ax:Addr}{itO:Obj}
section
variable{prog:ar}{w:aq}{A:aw}{E:aa->ae->Prop}{s:ae}{Q:aa->ae->Prop}
abbrev uf(led:Bool):Obj:={ cls:=.type "set", dict:=none,data:=.set #[] 0 (.fresh 0 0 led) }
abbrev inK(ks:List Key):Key->Bool:=λj=>(tG ks).any (λz=>decide (z=j))
structure Re(prog:ar)(w:aq)(h:Heap)(a:Addr)(items:Array aa)(ks:List Key):Prop where
 len:ks.length=items.size
 key:∀i v (hi:i<ks.length),items[i]?=some v->(o7 prog w).is ks[i] v=true/\v.scannable=true
 bnd:items.size+1<scanBound
def K4(s:ae)(PS:Heap->Prop)(E:aa->ae->Prop):cW->ae->Prop:=
 wants (λr s2=>r=.none/\∃h2 k2,s2={ s with heap:=h2,toks:=k2 }/\PS h2/\∀b o,b<s.heap.objs.size->s.heap.get? b=some o->h2.get? b=some o) E
theorem CY{items:Array aa}{led:Bool}{SS:Nat->Heap->Prop}(K:Re prog w s.heap ax items ks)(hlt:ax<s.heap.objs.size)
  (W:Walks prog w A.in1 (s.heap.objs.size+1) [s.heap.objs.size+1,ax] [s.heap.objs.size+1] items.size (λi v=>items[i]?=some v) SS) (st:SS 0 ((s.heap.push (uf led)).push itO)) {R:cW->ae->Prop}
  (hR:∀h2 k2,h2.SetOf (o7 prog w) s.heap.objs.size (inK ks) (tG ks).length->(∀b o,b<s.heap.objs.size->s.heap.get? b=some o->h2.get? b=some o)->R (.ok (.ret .none)) { s with heap:=h2,toks:=k2 }) (tk:Nat):
  bY (model prog w) A (.builtin "set.update.loop" ⟨[.ref s.heap.objs.size,.ref (s.heap.objs.size+1)],[]⟩) R { s with heap:=(s.heap.push (uf led)).push itO,toks:=tk }:=by
 have notin:s.heap.objs.size∉[s.heap.objs.size+1,ax]:=by
  intro z;rcases aP.mp z with z|z
  ·exact ao z (aW (dW _))
  ·exact ao (bb.mp z) (jc hlt)
 have e0:((s.heap.push (uf led)).push itO).get? s.heap.objs.size=some (uf led):=aM _ (bB _ rfl);refine Ii W.toS s.heap.objs.size notin ks K.len (λi v hi hv=>K.key i v hi hv) K.bnd (items.size - 0) 0 _ (by omega) (cb _) st ?_ λs2 mv S2=>?_
 ·exact⟨_,#[],0,_,e0,⟨rfl,rfl,rfl⟩,rfl,λe he=>by simp at he,λk=>by simp[tG],by unfold scanBound;decide,by rfl,rfl⟩
 ·obtain⟨h2,g2,d2,k2,o2⟩:=s2;have eg:g2=s.gens:=mv.gens;have ed:d2=s.drawn:=mv.drawn;have eo:o2=s.os:=mv.os;subst eg ed eo;refine hR h2 k2 S2 λb o hb e=>mv.heap b o (λz=>?_) (aM _ (aM _ e));rcases aP.mp z with z|z
  ·exact ao z (aW hb)
  ·exact ao (bb.mp z) (aW (dy hb))
theorem DX(a:aa){Q₁:aa->ae->Prop}(h:Q₁ (.ref s.heap.objs.size) { s with heap:=s.heap.push (uf (!w.params.followText "set-order")) }):
  bY (model prog w) A (.call (.builtin "set.__new__") ⟨[.type "set", a],[]⟩) (wants Q₁ E) s:=by
 refine lC ?_;show af _ A.in1 (do checkBuiltinCall "set.__new__" ⟨[.type "set", a],[]⟩;again (.builtin "set.__new__" ⟨[.type "set", a],[]⟩)) _ _ s;refine aj (wpAny_of_eq (F.newCall_set_1 a) (ay ⟨gE lD _,eG F.entry_set_new ?_⟩));rw[fo lD _];unfold Builtin.«set.__new__» mO;have hsub:=sub_set_self;obtain⟨hp,g,d,tk,os⟩:=s;dsimp only
 wp_walk
 refine wpAny_askSetting (ay ?_);dsimp only;simp only[newObj];refine aj (wpAny_alloc (ay ?_));exact ay h
theorem xK{T:String}{PS:Heap->Prop}(ho:s.heap.get? ax=some o)(hc:o.cls=.type T)
  (u1:isSubtype (.type T) (.type "set")=pure false) (u2:isSubtype (.type T) (.type "frozenset")=pure false) (u3:(Value.type T==Value.type "dict")=false)
  (itr:∀(A:aw) (Q:aa->ae->Prop) (E:aa->ae->Prop) (s1:ae),s1.heap.get? ax=some o->Q (.ref s1.heap.objs.size) { s1 with heap:=s1.heap.push itO }->af (model prog w) A (pyIter (.ref ax)) Q E s1)
  (fil:∀tk (R:cW->ae->Prop),(∀h2 k2,PS h2->(∀b o,b<s.heap.objs.size->s.heap.get? b=some o->h2.get? b=some o)->R (.ok (.ret .none)) { s with heap:=h2,toks:=k2 })->
   bY (model prog w) A.in1.in1 (.builtin "set.update.loop" ⟨[.ref s.heap.objs.size,.ref (s.heap.objs.size+1)],[]⟩) R { s with heap:=(s.heap.push (uf (!w.params.followText "set-order"))).push itO,toks:=tk })
  (h:∀h2 k2,PS h2->(∀b o,b<s.heap.objs.size->s.heap.get? b=some o->h2.get? b=some o)->Q (.ref s.heap.objs.size) { s with heap:=h2,toks:=k2 }):
  af (model prog w) A (call (.type "set") [.ref ax]) Q E s:=by
 have hlt:ax<s.heap.objs.size:=aJ ho;obtain⟨c,tl,hmro⟩:=dF.mro;have made:=dF.made;have subs:=dF.sub;refine gX (lC ?_);show af _ _ (callAny (.type "set") _) _ _ _;refine ay ⟨Code.quiet_builtin _ (by decide +kernel),eG F.entry_type_call ?_⟩;rw[Around.under_plain (weight_type_call_type "set" [.ref ax] []) rfl];have n1:=dF.notType;have n2:=dF.canCreate;have n3:=F.typeCall_set_1 (.ref ax)
 repeat (any_goals (first|assumption|wp_step))
 let led:Bool:=!w.params.followText "set-order";refine d0 (DX (.ref ax) (E:=E) (Q₁:=λv s1=>v=.ref s.heap.objs.size/\s1={ s with heap:=s.heap.push (uf led) }) ⟨rfl,rfl⟩) λr s1 hr=>?_;cases r with
 |error e=>exact hr
 |ok fl=>
  cases fl with
  |ret v=>
   obtain⟨rfl,rfl⟩:=hr;have e0:(s.heap.push (uf led)).get? s.heap.objs.size=some (uf led):=bB _ rfl;have ty0:Shared.TypeIs { s with heap:=s.heap.push (uf led) } (.ref s.heap.objs.size) "set" := ⟨_,e0,rfl⟩;have l1:=dF.init.lookup;have l2:=dF.init.bind (.ref s.heap.objs.size)
   repeat (any_goals (first|assumption|wp_step))
   refine d0 (codeAny_call_builtin (R:=K4 s PS E) dF.init.plain F.entry_set_init (check_set_init_1 ty0 ?_)) λr2 s2 hr2=>?_
   ·obtain⟨oc,od,oda,osl⟩:=o;cases hc;have e1:(s.heap.push (uf led)).get? ax=some { cls:=.type T,dict:=od,data:=oda,slots:=osl }:=aM _ ho;unfold Builtin.«set.__init__» noKeywords mL;generalize gP:pyIter=PP
    wp_walk
    subst gP;refine itr _ _ _ _ e1 ?_;refine aj (wpAny_runValue ?_);have ez:(s.heap.push (uf led)).objs.size=s.heap.objs.size+1:=eI _ _;show bY _ _ (.builtin "set.update.loop" ⟨[.ref s.heap.objs.size,.ref (s.heap.push (uf led)).objs.size],[]⟩) _ _;rw[ez];refine fil _ _ λh2 k2 S2 kk=>?_;show af _ _ _ _ _ _;refine ay ?_;show af _ _ (ret Value.none) _ _ _;exact ay ⟨rfl,h2,k2,rfl,S2,kk⟩
   ·cases r2 with
    |error e=>exact hr2
    |ok fl2=>
     cases fl2 with
     |ret r=>
      obtain⟨rfl,h2,k2,rfl,S2,kk⟩:=hr2
      repeat (any_goals (first|assumption|wp_step))
      exact h _ _ S2 kk
     |_=>exact hr2.elim
  |_=>exact hr.elim
end
variable{S:ak->Hp->Addr->Nat->Prop}
section
variable{X:Cx}{G:Bg}{H:Hp}{pins:List (Addr×Obj)}{σ:St}{s:ae}
theorem Il{P:ar}{w:aq}{k:Key}{v:aa}(h:(o7 P w).is k v=true):v.scannable=true:=by rcases pN h with ⟨i,t,_,rfl⟩|⟨x,t,_,rfl⟩<;>rfl
theorem Im{its:List aa}(r:Vals (ks.map kV) its)(hb:ks.length+1<scanBound):Re X.prog X.w s.heap a its.toArray ks:=by
 have hl:ks.length=its.length:=by have:=r.length;rw[ag]at this;exact this
 refine⟨by rw[aR];exact hl,λi v hi hv=>?_,by rw[aR];omega⟩;have e:(ks.map kV)[i]?=some (kV ks[i]):=by rw[aY,aQ hi];rfl
 obtain⟨u,hu,ru⟩:=r.get e;have eu:v=u:=by rw[iq]at hv;rw[hv]at hu;exact bW hu
 subst eu;have:=zB (P:=X.prog) (w:=X.w) ru;exact⟨this,Il this⟩
theorem Rf(I:Inv X pins σ H s)(h:SqT X.K H a (ks.map kV)):TK X.prog X.w s.heap ks a:=by
 obtain⟨its,r,p,_⟩:=I.tuple h;obtain⟨o,ho,hc,n,hd⟩:=p;refine⟨o,_,n,ho,hc,hd,?_⟩;have gen:∀(ks:List Key) (its:List aa),Vals (ks.map kV) its->PySem.ItemsAre (o7 X.prog X.w) ks its:=λks=>by
  induction ks with
  |nil=>intro its r;cases r;exact .nil
  |cons k ks ih=>intro its r;cases r with|cons h1 h2=>exact .cons (zB h1) (ih _ h2)
 exact gen ks its r
def N4(K:ak)(H:Hp)(a:Addr)(n:Nat):Prop:=∃ks,(SqL K H a (ks.map kV)\/SqT K H a (ks.map kV))/\ks.length+1<scanBound/\n=(tG ks).length
def N5(X:Cx)(S:ak->Hp->Addr->Nat->Prop):Prop:=∀{pins:List (Addr×Obj)} {σ:St} {H:Hp} {s:ae} {A:aw} {E:aa->ae->Prop} {Q:aa->ae->Prop} {a:Addr} {n:Nat},Inv X pins σ H s->A.handled=none->A.units+8<cLine->S X.K H a n->
 (∀h2 k2,Rb h2 s.heap.objs.size n->(∀b o,b<s.heap.objs.size->s.heap.get? b=some o->h2.get? b=some o)->Q (.ref s.heap.objs.size) { s with heap:=h2,toks:=k2 })->af (model X.prog X.w) A (call (.type "set") [.ref a]) Q E s
theorem Rg:N5 X (N4):=by
 intro pins σ H s A E Q a n I hh hu hq h;have h3:A.in1.in1.in1.handled=none:=by simp[hh]
 have gt:∀{h2:Heap} {ks:List Key},h2.SetOf (o7 X.prog X.w) s.heap.objs.size (inK ks) (tG ks).length->Rb h2 s.heap.objs.size (tG ks).length:=λS=>by obtain⟨o,es,ep,t,ho,hex,hd,_,_,hz,hf,hn⟩:=S;exact⟨o,es,ep,t,ho,hex,hd,hz,hf,hn⟩
 have it:∀{o:Obj} {led:Bool},o.isFreed=false->((s.heap.push (uf led)).push o).get? (s.heap.objs.size+1)=some o:=λ{o led} z=>by rw[show s.heap.objs.size+1=(s.heap.push (uf led)).objs.size from(eI _ _).symm];exact bB _ z
 obtain⟨ks,hq|hq,hb,rfl⟩:=hq
 ·obtain⟨its,r,p,_⟩:=I.list hq;obtain⟨o,ho,hc,n,hd⟩:=p.isList;have hne:a≠s.heap.objs.size+1:=aW (dy (aJ ho));refine xK ho hc lO j6 (by decide) (itO:={ cls:=.type "list_iterator", data:=.fields #[.ref a,.int 0 0] })
   (λA Q E s1 e k=>fA ⟨o,e,hc,n,hd⟩ k) (λtk R hR=>CY (Im r hb) (aJ ho) (gZ h3 _ a hne its.toArray) ⟨⟨_,it rfl,rfl,rfl⟩,⟨o,aM _ (aM _ ho),hc,n,hd⟩⟩ (λh2 k2 S=>hR h2 k2 (gt S)) tk) h
 ·obtain⟨its,r,p,_⟩:=I.tuple hq;obtain⟨o,ho,hc,n,hd⟩:=p;have hne:a≠s.heap.objs.size+1:=aW (dy (aJ ho));refine xK ho hc sub_tuple_set sub_tuple_frozenset (by decide) (itO:={ cls:=.type "tuple_iterator", data:=.fields #[.ref a,.int 0 0] })
   (λA Q E s1 e k=>iE ⟨o,e,hc,n,hd⟩ k) (λtk R hR=>CY (Im r hb) (aJ ho) (mG h3 _ a hne its.toArray) ⟨⟨_,it rfl,rfl,rfl⟩,⟨o,aM _ (aM _ ho),hc,n,hd⟩⟩ (λh2 k2 S=>hR h2 k2 (gt S)) tk) h
def ER(S:ak->Hp->Addr->Nat->Prop)(K:ak)(te:TE):TE:=λσ H Q=>te σ H λx H1=>∃a n,x=.ref a/\S K H1 a n/\Q (.int n) H1
theorem F9{p1 p2 p3 p4:Pos}(hV:N5 X S)(hu:X.A.units+64<cLine)(hc:X.calm=true)(g1:Gl X "len")(m1:X.mg "len" = none)(g2:Gl X "set")(m2:X.mg "set" = none)(he:PE X e te)
  (z1:az [Expr.Call (.Name "set" p2) [e] [] p3] X.env=[(false,eval (.Call (.Name "set" p2) [e] [] p3) X.env)]:=by rfl) (z2:az [e] X.env=[(false,eval e X.env)]:=by rfl):PE X (.Call (.Name "len" p1) [.Call (.Name "set" p2) [e] [] p3] [] p4) (ER S X.K te):=by
 intro pins s σ H Q I h;refine dv (ye I g1 m1 lQ ?_ (by decide) (by decide));refine callWith_builtin1 ?_ z1 rfl;rw[z1];show af _ _ (spliced [(false,eval (.Call (.Name "set" p2) [e] [] p3) X.env)]) _ _ s;refine gj ?_;refine dv (ye I g2 m2 Pv.boot_set ?_ (by decide) (by decide));refine callWith_type1 (thn (rH he uS z2 p3 pins s σ H (λvs H1=>match vs with
  |[x]=>∃a n,x=.ref a/\S X.K H1 a n/\Q (.int n) H1
  |_=>False) I h) λus s1 ⟨vs,H1,I1,r1,q1⟩=>?_) z2 rfl
 match vs,r1,q1 with
 |[x],r1,q1=>
 obtain⟨a,n,e1,hq,q⟩:=q1;subst e1;obtain⟨u,rfl,ru⟩:=vals1 r1;cases ru;refine hV I1 (I1.ok.hd hc) (by omega) hq λh2 k2 S2 kk=>?_;refine iK ?_;obtain⟨o,es,ep,t,ho,hex,hd,hz,hf,hn⟩:=S2;have I2:Inv X pins σ H1 { s1 with heap:=h2,toks:=k2 }:=I1.kept λb o e=>kk b o (aJ e) e;refine call_len_set ho hex hd hf (by unfold scanBound at hz;omega) ⟨.int n,H1,I2.tok _,⟨_,by rw[hn]⟩,q⟩
def wR:List D->Option (List Key)
 |[]=>some []
 |d::ds=>match wK d,wR ds with
  |some k,some ks=>some (k::ks)
  |_,_=>none
theorem A4:∀{ds:List D} {xs:List V} {ks:List Key},oN G H ds xs->wR ds=some ks->xs=ks.map kV
 |[],xs,ks,r,e=>by cases e;unfold oN at r;exact r
 |d::ds,xs,ks,r,e=>by
  unfold wR at e;cases e1:wK d with
  |none=>rw[e1]at e;cases e
  |some k=>
   cases e2:wR ds with
   |none=>rw[e1,e2]at e;cases e
   |some ks'=>rw[e1,e2]at e;cases e;unfold oN at r;obtain⟨v,r',rfl,h1,h2⟩:=r;rw[xJ h1 e1,A4 h2 e2];rfl
def qv(ds:List D):Option D:=match wR ds with
 |some ks=>if ks.length<=1000 then some (.int (tG ks).length)else none
 |none=>none
def vT(g:List D->Option D):D->Option D
 |.lst ds=>match qv ds with
  |some r=>some r
  |none=>g ds
 |.tup ds=>qv ds
 |.fzl ds=>qv ds
 |_=>none
theorem ES{g:List D->Option D}{ds:List D}{r:D}(h:qv ds=some r):vT g (.lst ds)=some r:=by show (match qv ds with|some r=>some r|none=>g ds)=some r;rw[h]
theorem DY{g:List D->Option D}(hK:X.K=G.K)(hO:∀{H a n},N4 X.K H a n->S X.K H a n)
  (hg:∀{ds d H1 H1' a xs},g ds=some d->SqL X.K H1' a xs->oN G H1 ds xs->oW H1 H1'->∃n:Nat,S X.K H1' a n/\d=.int n)
  (h:PE X e (ER S X.K (tF G f))):PE X e (tF G (c1 (vT g) f)):=PE.weak h λσ H Q hh=>by
 obtain⟨F,ρ,H0,d,ρ',R,e,k⟩:=hh;obtain⟨x,e1,e2⟩:=ze e;have key:∀{ds:List D} {xs:List V} {a:Addr} {H1 H1':Hp},qv ds=some d->oN G H1 ds xs->oW H0 H1->o8 G F σ ρ' H1 H1'->(SqL X.K H1' a xs\/SqT X.K H1' a xs)->
   ∃a' n,V.ref a=.ref a'/\S X.K H1' a' n/\Q (.int n) H1':=λ{ds xs a H1 H1'} ed rs s R' hq=>by
  unfold qv at ed;cases ek:wR ds with
  |none=>rw[ek]at ed;cases ed
  |some ks=>
   rw[ek]at ed;simp only at ed;split at ed
   ·rename_i hl;cases ed;rw[A4 rs ek]at hq;exact⟨a,_,rfl,hO ⟨ks,hq,by unfold scanBound;omega,rfl⟩,k _ _ _ s R' (qo _)⟩
   ·cases ed
 refine⟨F,ρ,H0,x,ρ',R,e1,λv H1 H1' s R' r=>?_⟩;cases x with
 |lst ds=>
  unfold Rep at r;obtain⟨a,xs,rfl,h1,h2⟩:=r;have hq:SqL X.K H1' a xs:=SqL.of (R'.sub _ _ h1);replace e2:(match qv ds with|some r=>some r|none=>g ds)=some d:=e2;cases e3:qv ds with
  |some r=>rw[e3]at e2;cases e2;exact key e3 h2 s R' (.inl hq)
  |none=>rw[e3]at e2;obtain⟨n,h3,rfl⟩:=hg e2 hq h2 R'.sub;exact⟨a,n,rfl,h3,k _ _ _ s R' (qo _)⟩
 |tup ds=>unfold Rep at r;obtain⟨a,xs,rfl,h1,h2⟩:=r;rw[<-hK]at h1;exact key e2 h2 s R' (.inr (SqT.mono R'.sub h1))
 |fzl ds=>unfold Rep at r;obtain⟨a,xs,rfl,h1,h2⟩:=r;rw[<-hK]at h1;exact key e2 h2 s R' (.inl (R'.sub.seq h1))
 |_=>cases e2
end
theorem ET{P:ar}{w:aq}{k:Key}{v:aa}(h:(o7 P w).is k v=true):RelV (kV k) v:=by
 rcases pN h with ⟨i,t,rfl,rfl⟩|⟨x,t,rfl,rfl⟩
 ·exact⟨t,rfl⟩
 ·exact⟨t,rfl⟩
def Itd(a:Addr)(o:Obj)(kvs:List (Key×V)):It:=
 ⟨λi H=>i<kvs.length/\H a=some (.frz o (.dK kvs)),λi H x H'=>H'=H/\∃k z,kvs[i]?=some (k,z)/\x=kV k,λi H=>kvs.length<=i/\H a=some (.frz o (.dK kvs))⟩
section
variable{X:Cx}{pins:List (Addr×Obj)}{σ:St}{H:Hp}{s:ae}
theorem yM{es:Array DictEntry}(I:Inv X pins σ H s)(e:H a=some (.frz o (.dK kvs)))(hd:o.data=.dict es ep):
  (a==cG)=false/\s.heap.get? a=some o/\∃vs,KV kvs vs/\s.heap.DictAt (o7 X.prog X.w) a vs ep:=by
 obtain⟨q0,_,y,vs,r,ob,es',ep',q1,q2,q3,q4⟩:=(show p9 X.prog X.w H s.heap a (.frz o (.dK kvs)) from I.hok a _ e);rw[q0]at q1;cases q1;rw[hd]at q3;cases q3;exact⟨y,q0,vs,r,o,es,q0,q2,hd,q4⟩
theorem N6{vs:List (Key×aa)}(r:KV kvs vs){k:Key}{x:aa}(e:vs[i]?=some (k,x)):∃z,kvs[i]?=some (k,z):=by
 induction r generalizing i with
 |nil=>cases e
 |@cons p q l l' h _ ih=>
  cases i with
  |zero=>obtain⟨pk,pv⟩:=p;cases e;exact⟨pv,by rw[show pk=k from h.1];rfl⟩
  |succ i=>exact ih e
end
theorem Ga{P:ar}{w:aq}{K:ak}(a it:Addr)(o:Obj)(kvs:List (Key×V)):Turn P w K tg (Itd a o kvs) [it] it (λi h=>∃es ep,o.data=.dict es ep/\h.IsKeyIter it a i kvs.length ep) where
 mem:=by simp
 obj:=λi h st b hb=>by
  have e:b=it:=by simpa using hb
  subst e;obtain⟨es,ep,hd,ob,e,c,d⟩:=st;exact⟨ob,e,λv z=>by rw[d]at z;cases z⟩
 keep:=λi h h' st k=>by obtain⟨es,ep,hd,x⟩:=st;exact⟨es,ep,hd,x.at λo e=>k it (by simp) o e⟩
 item:=by
  intro X hP hw hK hc i pins s σ H E I hf st hg;subst hP hw hK;obtain⟨hi,he⟩:=hg;obtain⟨es,ep,hd,ki⟩:=st;obtain⟨f0,f1,f2,f3,f4,f5⟩:=hf it (by simp);obtain⟨_,_,vs,r,da⟩:=yM I he hd;have hl:kvs.length=vs.length:=r.length;have hne:a≠it:=λz=>by subst z;rw[he]at f0;cases f0
  have W:=Walks.dictKeys (knd:=o7 X.prog X.w) (A:=X.A) (I.ok.hd hc) it a hne vs ep;refine W.item i s _ _ (by omega) ⟨by rw[<-hl];exact ki,da⟩ λv h' tk hv st' kk=>?_;obtain⟨k,x,hx,hk⟩:=hv;obtain⟨z,hz⟩:=N6 r hx;have I1:Inv X pins σ H { s with heap:=h',toks:=tk }:=I.turned (λb o hb e=>kk b o (by simpa using hb) e) f0 f1 f3 f4 f5;obtain⟨ki',_⟩:=st';rw[<-hl]at ki';obtain⟨ob,e,c,d⟩:=id ki';exact⟨v,rfl,Ek (s:={ s with heap:=h',toks:=tk }) e c d (by decide) ⟨kV k,H,I1,ET hk,⟨rfl,k,z,hz,rfl⟩,⟨es,ep,hd,ki'⟩,λb hb=>(hf b hb).1⟩⟩
 done:=by intro X hP hw hK hc i pins s σ H E I hf st hg;subst hP hw hK;obtain⟨hi,he⟩:=hg;obtain⟨es,ep,hd,ki⟩:=st;obtain⟨f0,f1,f2,f3,f4,f5⟩:=hf it (by simp);obtain⟨_,_,vs,r,da⟩:=yM I he hd;have hl:kvs.length=vs.length:=r.length;exact wpAny_pyNext_dict_end (I.ok.hd hc) (by rw[<-hl];exact ki) da (eZ (by rw[<-hl];exact hi)) λh' eb=>⟨rfl,I.turned (t':=s.toks) (λb o hb e=>eb b o hb e) f0 f1 f3 f4 f5⟩
 self:=λ_ _ _ _ _ st h=>by obtain⟨es,ep,hd,ki⟩:=st;exact wpAny_pyIter_keyiter ki h
section
variable{X:Cx}{G:Bg}{tg:Expr}
def Rh(tl:TE):TI:=λσ H R=>tl σ H λx H1=>∃a o kvs,x=.ref a/\H1 a=some (.frz o (.dK kvs))/\R (Itd a o kvs) H1
theorem K5{l:Expr}{tl:TE}(hl:PE X l tl):PI X tg l (Rh tl):=by
 intro pins s σ H R I h;refine thn (hl pins s σ H _ I h) λv s1 zz=>?_;obtain⟨x,H1,I1,r1,q1⟩:=zz;obtain⟨a,o,kvs,e,he,q⟩:=q1;subst e;cases r1;obtain⟨q0,_,y,vs,r,ob,es,ep,e1,e2,e3,e4⟩:=(show p9 X.prog X.w H1 s1.heap a (.frz o (.dK kvs)) from I1.hok a _ he);rw[q0]at e1;cases e1;have hl:kvs.length=vs.length:=r.length;refine wpAny_pyIter_dict (knd:=o7 X.prog X.w) (kvs:=vs) (ep:=ep) y ⟨o,es,q0,e2,e3,e4⟩ ?_;refine⟨s1.heap.objs.size,[s1.heap.objs.size],_,_,H1,rfl,I1.kept (t':=s1.toks) λb o e=>aM _ e,Ga a _ o kvs,⟨es,ep,e3,⟨_,bB _ rfl,rfl,by rw[hl];rfl⟩⟩,λb hb=>?_,q⟩;have e:b=s1.heap.objs.size:=by simpa using hb
 subst e;exact I1.fpOk (aC _) (I1.hok.fresh (aC _))
def N7:Key->D
 |.inl i=>.int i
 |.inr x=>.str x
theorem K6(k:Key){H:Hp}:Rep G H (N7 k) (kV k):=by
 cases k with
 |inl i=>exact qo i
 |inr x=>exact wt x
def iD(f:FE):FA:=λρ=>match f ρ with
 |some (.dic ks ds,ρ1)=>if ks.length=ds.length then some (ks.map N7,ρ1)else none
 |_=>none
theorem Io{tg:Expr}(h:PI X tg e (Rh (tF G f))):PI X tg e (tFI G (iD f)):=PI.weak h λσ H R hh=>by
 obtain⟨F,ρ,H0,ds,ρ',R,e,k⟩:=hh;unfold iD at e;split at e
 ·rename_i ks ds' ρ1 e1;split at e
  ·rename_i hlen;cases e;refine⟨F,ρ,H0,_,_,R,e1,λv H1 H1' s R' r=>?_⟩;unfold Rep at r;obtain⟨a,o,xs,rfl,r1,r2,r3⟩:=r;have hz:(ks.zip xs).length=ks.length:=by rw[fK,<- r2,fO]
   refine⟨a,o,_,rfl,R'.sub _ _ r1,k _ _ _ s R' λi H2 H2' t t'=>⟨λd ed=>?_,λhl=>?_⟩⟩
   ·rw[aY]at ed;cases ek:ks[i]? with
    |none=>rw[ek]at ed;cases ed
    |some j=>
     rw[ek]at ed;cases ed;have hi:i<ks.length:=(br.mp ek).1;refine⟨⟨by rw[hz];exact hi,t' _ _ (t _ _ r1)⟩,λz H3 y=>?_⟩;obtain⟨e3,k',z',hk',rfl⟩:=y;subst e3;have:k'=j:=by rw[List.getElem?_zip_eq_some]at hk';have:=hk'.1;rw[ek]at this;exact(bW this).symm
     subst this;exact⟨H2,oW.refl _,t',oW.refl _,λb o e=>.inl e,K6 _⟩
   ·refine⟨by rw[hz,hl,ag];exact aC _,t' _ _ (t _ _ r1)⟩
  ·cases e
 ·cases e
end
mutual
def noC(N c:Nat):D->Bool
 |.non=>true
 |.bl _=>true
 |.int _=>true
 |.str _=>true
 |.tup ds=>sf N c ds
 |.lst ds=>sf N c ds
 |.fzl ds=>sf N c ds
 |.obj k _ ds=>decide (k<N)&&decide (k≠c)&&sf N c ds
 |.dic _ ds=>sf N c ds
def sf(N c:Nat):List D->Bool
 |[]=>true
 |d::ds=>noC N c d&&sf N c ds
end
def without(H:Hp)(a:Addr):Hp:=λb=>if b=a then none else H b
theorem zZ{H:Hp}{b:Addr}(h:b≠a):without H a b=H b:=by unfold without;rw[ai h]
theorem xM{H:Hp}{b:Addr}{o:HO}(h:without H a b=some o):b≠a/\H b=some o:=by
 unfold without at h;by_cases hb:b=a
 ·rw[ah hb]at h;cases h
 ·rw[ai hb]at h;exact⟨hb,h⟩
theorem rk{H:Hp}{b:Addr}{u v:HO}(ha:H a=some u)(hb:H b=some v)(d:u≠v):without H a b=some v:=by rw[zZ (λz=>by subst z;rw[ha]at hb;exact d (bW hb))];exact hb
variable{p:Addr}{xs:List V}
section
variable{G:Bg}{H:Hp}{a dx:Addr}{fs:List (Str×V)}{N c:Nat}
theorem CZ(ha:H a=some (.ins (G.ca c) dx fs))(h:SqT G.K H p xs):SqT G.K (without H a) p xs:=by
 rcases h with (h|⟨o,h⟩)|h
 ·exact .inl (.inl (rk ha h (λz=>nomatch z)))
 ·exact .inl (.inr ⟨o,rk ha h (λz=>nomatch z)⟩)
 ·exact .inr h
theorem Da(ha:H a=some (.ins (G.ca c) dx fs))(h:SqL G.K H p xs):SqL G.K (without H a) p xs:=by
 rcases h with (h|⟨o,h⟩)|h
 ·exact .inl (.inl (rk ha h (λz=>nomatch z)))
 ·exact .inl (.inr ⟨o,rk ha h (λz=>nomatch z)⟩)
 ·exact .inr h
mutual
theorem yN(inj:∀j k,j<N->k<N->G.ca j=G.ca k->j=k)(hc:c<N)(ha:H a=some (.ins (G.ca c) dx fs)):∀(d:D) (v:V),noC N c d=true->Rep G H d v->Rep G (without H a) d v
 |.non,v,_,h=>by unfold Rep at h ⊢;exact h
 |.bl _,v,_,h=>by unfold Rep at h ⊢;exact h
 |.int _,v,_,h=>by unfold Rep at h ⊢;exact h
 |.str _,v,_,h=>by unfold Rep at h ⊢;exact h
 |.tup ds,v,n,h=>by unfold noC at n;unfold Rep at h ⊢;obtain⟨p,xs,e,h1,h2⟩:=h;exact⟨p,xs,e,CZ ha h1,qX inj hc ha ds xs n h2⟩
 |.lst ds,v,n,h=>by unfold noC at n;unfold Rep at h ⊢;obtain⟨p,xs,e,h1,h2⟩:=h;exact⟨p,xs,e,rk ha h1 (λz=>nomatch z),qX inj hc ha ds xs n h2⟩
 |.fzl ds,v,n,h=>by unfold noC at n;unfold Rep at h ⊢;obtain⟨p,xs,e,h1,h2⟩:=h;exact⟨p,xs,e,Da ha h1,qX inj hc ha ds xs n h2⟩
 |.obj k ns ds,v,n,h=>by unfold noC at n;simp only[aE,bc]at n;unfold Rep at h ⊢;obtain⟨p,dx',xs,e,h1,h2,h3⟩:=h;refine⟨p,dx',xs,e,rk ha h1 (λz=>?_),h2,qX inj hc ha ds xs n.2 h3⟩;injection z with z1;exact n.1.2 (inj k c n.1.1 hc z1.symm)
 |.dic ks ds,v,n,h=>by unfold noC at n;unfold Rep at h ⊢;obtain⟨p,o,xs,e,h1,h2,h3⟩:=h;exact⟨p,o,xs,e,rk ha h1 (λz=>nomatch z),h2,qX inj hc ha ds xs n h3⟩
theorem qX(inj:∀j k,j<N->k<N->G.ca j=G.ca k->j=k)(hc:c<N)(ha:H a=some (.ins (G.ca c) dx fs)):∀(ds:List D) (xs:List V),sf N c ds=true->oN G H ds xs->oN G (without H a) ds xs
 |[],xs,_,h=>by unfold oN at h ⊢;exact h
 |d::ds,xs,n,h=>by unfold sf at n;simp only[aE]at n;unfold oN at h ⊢;obtain⟨v,r,e,h1,h2⟩:=h;exact⟨v,r,e,yN inj hc ha d v n.1 h1,qX inj hc ha ds r n.2 h2⟩
end
end
def ug:Sl->Sl
 |.im d=>.im d
 |_=>.un
def wU(N:Nat)(f:FE):FE:=λρ=>match ρ with
 |.ob c ns ds::r=>match f (.im (.obj c ns ds)::r.map ug)with
  |some (d,_)=>if (decide (c<N)&&noC N c d)=true then some (d,ρ)else none
  |none=>none
 |_=>none
section
variable{X:Cx}{G:Bg}
theorem DZ{s:Sl}:(ug s).own=false:=by cases s<;>rfl
theorem K7{N:Nat}(inj:∀j k,j<N->k<N->G.ca j=G.ca k->j=k)(h:PE X e (tF G f)):PE X e (tF G (wU N f)):=PE.weak h λσ H Q hh=>by
 obtain⟨F,ρ,H0,d,ρ',R,e,k⟩:=hh;unfold wU at e;split at e
 ·rename_i c ns ds r;rcases o9 (f:=f) (ρ:=.im (.obj c ns ds)::r.map ug)with e1|⟨x,ρ1,e1⟩<;>simp only[e1]at e
  ·cases e
  split at e
  ·rename_i hn;cases e;simp only[aE,bc]at hn;obtain⟨a,dx,xs,h1,h2,h3,h4,h5,h6⟩:=R.sl 0 _ rfl;have RL:o8 G ⟨upd H0 a (.ins (G.ca c) dx (ns.zip xs)),H,[]⟩ σ (.im (.obj c ns ds)::r.map ug) (upd H0 a (.ins (G.ca c) dx (ns.zip xs))) H:={
    sub:=λb o q=>by
     by_cases hb:b=a
     ·subst hb;rw[oZ]at q;cases q;exact h2
     ·rw[o3 hb]at q;exact R.sub _ _ q
    g0:=oW.refl _
    keep:=λb o q _=>q
    fr:=λb o q=>.inl q
    am:=λb q=>by cases q
    len:=by have:=R.len;simpa using this
    sl:=λi s q=>by
     cases i with
     |zero=>cases q;exact⟨.ref a,h1,by unfold Rep;exact⟨a,dx,xs,rfl,oZ,h5,oN.mono (o6 h3 _) _ _ h6⟩⟩
     |succ i=>
      have q':(r.map ug)[i]?=some s:=q;rw[aY]at q';cases q1:r[i]? with
      |none=>rw[q1]at q';cases q'
      |some t=>
       rw[q1]at q';cases q';have ok:=R.sl (i+1) t q1;cases t with
       |im d=>obtain⟨v,g1,g2⟩:=ok;exact⟨v,g1,Rep.mono (o6 h3 _) _ _ g2⟩
       |_=>trivial
    ap:=λi j s t b _ qi _ so=>by
     cases i with
     |zero=>cases qi;cases so
     |succ i=>
      have q':(r.map ug)[i]?=some s:=qi;rw[aY]at q';cases q1:r[i]? with
      |none=>rw[q1]at q';cases q'
      |some t=>rw[q1]at q';cases q';rw[DZ]at so;cases so }
   refine⟨_,_,_,d,ρ1,RL,e1,λv H1 H1' s R' rd=>?_⟩;have ha:H1 a=some (.ins (G.ca c) dx (ns.zip xs)):=s _ _ oZ;have s0:oW H0 (without H1 a):=λb o q=>by
    have hb:b≠a:=λz=>by subst z;rw[h3]at q;cases q
    rw[zZ hb];exact s b o (by rw[o3 hb];exact q)
   refine k v (without H1 a) H1' s0 ?_ (yN inj hn.1 ha d v hn.2 rd);refine R.grow (λb o q=>R'.keep b o q (by simp)) s0 (λb o q=>R'.sub _ _ (xM q).2) λb o q=>?_;obtain⟨hb,q⟩:=xM q;rcases R'.fr b o q with z|z
   ·have z':upd H0 a (.ins (G.ca c) dx (ns.zip xs)) b=some o:=z;rw[o3 hb]at z';exact .inl z'
   ·exact .inr z
  ·cases e
 ·cases e
end
section
variable{X:Cx}{pins:List (Addr×Obj)}{σ:St}{H:Hp}{s:ae}{a:Addr}{A:aw}{E:aa->ae->Prop}
theorem N8{k:Key}{z:V}{u r:aa}{Q:aa->ae->Prop}(I:Inv X pins σ H s)(e:H a=some (.dK kvs))(ry:RelV (kV k) u)(rz:RelV z r)(hl:kvs.length<aB)
  (h1:∀v w s',r9 kvs k=some v->Inv X pins σ H s'->RelV v w->Q w s') (h2:∀s',r9 kvs k=none->Inv X pins σ (upd H a (.dK (putK kvs k z))) s'->Q r s'):
  af (model X.prog X.w) A (call (.builtin "dict.setdefault") [.ref a,u,r]) Q E s:=by
 obtain⟨y,hd,vs,rel,dd⟩:=LY I.hok e;have hz:vs.length<=aB:=by rw[<-rel.length];exact y
 have hp:(putK kvs k z).length<=aB:=by have:=vL kvs k z;omega
 have rv:=rel.val k;refine call_meetsIn jW dd.typeIs F.entry_dict_setdefault (F.args_dict_setdefault_3 _ _ _) (kt_meets_setdefault (o7 X.prog X.w) a (zB ry) hd r) ⟨vs,dd,hz,λw hw=>?_,λhn h' dd' hs=>?_⟩
 ·rw[hw]at rv;cases ev:r9 kvs k with
  |none=>rw[ev]at rv;exact rv.elim
  |some v=>rw[ev]at rv;exact h1 v w _ ev (I.tok _) rv
 ·rw[hn]at rv;cases ev:r9 kvs k with
  |some v=>rw[ev]at rv;exact rv.elim
  |none=>have he:∃q,h'.get? a=some q:=let ⟨q,_,_,hq,_⟩:=dd';⟨q,hq⟩;exact h2 _ ev (BJ I (by rw[e];exact True.intro) hs he (G5 hp hd (rel.put k rz) dd'))
def Ip(td ty tx:TE):TE:=λσ H Q=>td σ H λx H1=>∃a,x=.ref a/\IsD H1 a/\ty σ H1 λy H2=>tx σ H2 λz H3=>∃kvs k,H3 a=some (.dK kvs)/\y=kV k/\kvs.length<aB/\
 (∀v,r9 kvs k=some v->Q v H3)/\(r9 kvs k=none->Q z (upd H3 a (.dK (putK kvs k z))))
theorem Iq{o f:Expr}{apos cpos:Pos}{td ty tx:TE}(ho:PE X o td)(he:PE X e ty)(hf:PE X f tx)(m:M2 X o "setdefault" apos e f cpos):PE X (.Call (.Attribute o "setdefault" apos) [e,f] [] cpos) (Ip td ty tx):=by
 intro pins s σ H Q I h;refine wpAny_Call_method m.base m.few m.line F.plainAttrs_dict jW F.type_dict_setdefault (thn (ho pins s σ H _ I h) λu s1 zz=>?_);obtain⟨x,H1,I1,rx,a,ex,d,q1⟩:=zz;subst ex;obtain rfl:u=Value.ref a:=rx;obtain⟨t1,t2,_⟩:=Nj I1 d;refine⟨t1,t2,?_⟩;rw[m.trees];refine jT rfl (iw (gj (thn (he pins s1 σ H1 _ I1 q1) λiv s2 ⟨y,H2,I2,ry,q2⟩=>
  gj (thn (hf pins s2 σ H2 _ I2 q2) λfv s3 ⟨z,H3,I3,rz,kvs,k,e3,ey,hl,g1,g2⟩=>iK ?_))))
 subst ey;exact N8 I3 e3 ry rz hl (λv w s' ev I' rw'=>⟨v,H3,I',rw',g1 v ev⟩) λs' ev I'=>⟨z,_,I',rz,g2 ev⟩
end
def vU(ks:List Key)(dss:List (List D))(k:Key)(d:D):List Key×List (List D):=
 if zb ks k=true then (ks,eN (λk' ds=>if k'=k then ds++[d]else ds) ks dss)else (ks++[k],dss++[[d]])
theorem Dc{k:Key}:zb ks k=true ↔ k∈ks:=by unfold zb;rw[cN];exact⟨λ⟨x,h1,h2⟩=>bC h2▸h1,λh=>⟨k,h,aO rfl⟩⟩
variable{vs:List V}
theorem Ir{k:Key}{v:V}:ks.length=vs.length->r9 (ks.zip vs) k=some v->∃j:Nat,ks[j]?=some k/\vs[j]?=some v:=by
 induction ks generalizing vs with
 |nil=>intro _ h;cases h
 |cons k0 ks ih=>
  intro hl h;cases vs with
  |nil=>cases hl
  |cons v0 vs=>
   unfold r9 at h;rw[dw,dc]at h;by_cases e:k0=k
   ·subst e;simp only[decide_true]at h;cases h;exact⟨0,rfl,rfl⟩
   ·simp only[e,decide_false]at h;obtain⟨j,h1,h2⟩:=ih (by simpa using hl) h;exact⟨j+1,h1,h2⟩
theorem Iu{k:Key}:ks.length=vs.length->r9 (ks.zip vs) k=none->k∉ks:=by
 induction ks generalizing vs with
 |nil=>intro _ _ h;cases h
 |cons k0 ks ih=>
  intro hl h hm;cases vs with
  |nil=>cases hl
  |cons v0 vs=>
   unfold r9 at h;rw[dw,dc]at h;by_cases e:k0=k
   ·subst e;simp only[decide_true]at h;cases h
   ·simp only[e,decide_false]at h;rcases aP.mp hm with z|z
    ·exact e z.symm
    ·exact ih (by simpa using hl) h z
structure Grp(G:Bg)(F:Fr)(H0 H:Hp)(a:Addr)(ks:List Key)(dss:List (List D))(bs:List Addr):Prop where
 at_:H a=some (.dK (ks.zip (bs.map V.ref)))
 n0:H0 a=none
 nB:F.B a=none
 len:ks.length=bs.length
 len':bs.length=dss.length
 nd:bs.Nodup
 kd:ks.Nodup
 each:∀(i:Nat) (b:Addr) (ds:List D),bs[i]?=some b->dss[i]?=some ds->∃xs,H b=some (.lst xs)/\H0 b=none/\F.B b=none/\oN G H0 ds xs
variable{j:Nat}
section
variable{G:Bg}{F:Fr}{σ:St}{ρ:List Sl}{H0 H H0' H':Hp}{a:Addr}{ks:List Key}{dss:List (List D)}{bs:List Addr}
theorem Grp.grow(g:Grp G F H0 H a ks dss bs)(hs:oW H H')(h0:oW H0 H0')(hf:∀b o,H0' b=some o->H0 b=some o\/H b=none):Grp G F H0' H' a ks dss bs where
 at_:=hs _ _ g.at_
 n0:=by
  cases q:H0' a with
  |none=>rfl
  |some o=>
   rcases hf a o q with z|z
   ·rw[g.n0]at z;cases z
   ·rw[g.at_]at z;cases z
 nB:=g.nB
 len:=g.len
 len':=g.len'
 nd:=g.nd
 kd:=g.kd
 each:=λi b ds e1 e2=>by
  obtain⟨xs,q1,q2,q3,q4⟩:=g.each i b ds e1 e2;refine⟨xs,hs _ _ q1,?_,q3,oN.mono h0 _ _ q4⟩;cases q:H0' b with
  |none=>rfl
  |some o=>
   rcases hf b o q with z|z
   ·rw[q2]at z;cases z
   ·rw[q1]at z;cases z
theorem o8.still(R:o8 G F σ ρ H0 H)(no:∀s∈ρ,s.own=false):o8 G ⟨H0,H,[]⟩ σ ρ H0 H where
 sub:=R.sub
 g0:=oW.refl _
 keep:=λb o e _=>e
 fr:=λb o e=>.inl e
 am:=λa h=>by cases h
 len:=R.len
 sl:=λi s e=>by
  have ok:=R.sl i s e;have n:=no s (bF e);cases s with
  |un=>trivial
  |im d=>exact ok
  |_=>cases n
 ap:=λi j s t b _ e _ so=>by rw[no s (bF e)]at so;cases so
theorem o8.touch(R:o8 G F σ ρ H0 H)(no:∀s∈ρ,s.own=false)(hk:∀b o,H b=some o->(H0 b≠none\/F.B b≠none)->H' b=some o)(ha:∀b o,H b=some o->∃o',H' b=some o'):o8 G F σ ρ H0 H' where
 sub:=λb o e=>hk b o (R.sub _ _ e) (.inl (by rw[e];exact λz=>nomatch z))
 g0:=R.g0
 keep:=λb o e n=>hk b o (R.keep b o e n) (.inr (by rw[e];exact λz=>nomatch z))
 fr:=R.fr
 am:=λb hb=>by obtain⟨o,e⟩:=R.am b hb;exact ha b o e
 len:=R.len
 sl:=λi s e=>by
  have ok:=R.sl i s e;have n:=no s (bF e);cases s with
  |un=>trivial
  |im d=>exact ok
  |_=>cases n
 ap:=λi j s t b _ e _ so=>by rw[no s (bF e)]at so;cases so
theorem N9{bs:List Addr}(h:bs.Nodup){b:Addr}(e1:bs[i]?=some b)(e2:bs[j]?=some b):i=j:=by obtain⟨h1,q1⟩:=br.mp e1;obtain⟨h2,q2⟩:=br.mp e2;exact(iO h).mp (q1.trans q2.symm)
theorem Oa{ks:List Key}(h:ks.Nodup){b:Key}(e1:ks[i]?=some b)(e2:ks[j]?=some b):i=j:=by obtain⟨h1,q1⟩:=br.mp e1;obtain⟨h2,q2⟩:=br.mp e2;exact(iO h).mp (q1.trans q2.symm)
theorem Grp.more(g:Grp G F H0 H a ks dss bs){k:Key}{b:Addr}{d:D}{v:V}(ek:ks[j]?=some k)(eb:bs[j]?=some b)(hx:H b=some (.lst xs))(rd:Rep G H0 d v):
  Grp G F H0 (upd H b (.lst (xs++[v]))) a (vU ks dss k d).1 (vU ks dss k d).2 bs:=by
 have hm:zb ks k=true:=Dc.mpr (bF ek);unfold vU;rw[ah hm];have ne:a≠b:=λz=>by subst z;rw[g.at_]at hx;cases hx
 refine⟨by rw[o3 ne];exact g.at_,g.n0,g.nB,g.len,?_,g.nd,g.kd,λi c ds e1 e2=>?_⟩
 ·rw[iz,<- g.len',<- g.len,fO,g.len]
 ·rw[List.getElem?_zipWith]at e2;cases q1:ks[i]? with
  |none=>rw[q1]at e2;cases e2
  |some k'=>
   cases q2:dss[i]? with
   |none=>rw[q1,q2]at e2;cases e2
   |some ds'=>
    rw[q1,q2]at e2;cases e2;obtain⟨ys,w1,w2,w3,w4⟩:=g.each i c ds' e1 q2;by_cases hk:k'=k
    ·subst hk;have ij:=Oa g.kd q1 ek;subst ij;rw[e1]at eb;cases eb;rw[w1]at hx;cases hx;rw[ah rfl];exact⟨_,oZ,w2,w3,qh w4 (pI rd pB)⟩
    ·rw[ai hk];have nc:c≠b:=λz=>by subst z;have ij:=N9 g.nd e1 eb;subst ij;rw[q1]at ek;cases ek;exact hk rfl
     exact⟨ys,by rw[o3 nc];exact w1,w2,w3,w4⟩
theorem Grp.fresh(g:Grp G F H0 H a ks dss bs){k:Key}{d:D}{v:V}(hk:k∉ks)(hp:H p=none)(h0:H0 p=none)(hB:F.B p=none)(rd:Rep G H0 d v):
  Grp G F H0 (upd (upd (upd H p (.lst [])) a (.dK ((ks++[k]).zip ((bs++[p]).map V.ref)))) p (.lst [v])) a (vU ks dss k d).1 (vU ks dss k d).2 (bs++[p]):=by
 have hm:¬zb ks k=true:=λz=>hk (Dc.mp z);unfold vU;rw[ai hm];have ne:a≠p:=λz=>by subst z;rw[g.at_]at hp;cases hp
 have np:p∉bs:=λz=>by
  obtain⟨i,hi,e⟩:=iA z;have e1:bs[i]?=some p:=by rw[aQ hi,e]
  obtain⟨ds,e2⟩:∃ds,dss[i]?=some ds:=⟨dss[i]'(by rw[<-g.len'];exact hi),aQ _⟩;obtain⟨ys,w1,_⟩:=g.each i p ds e1 e2;rw[hp]at w1;cases w1
 refine⟨by rw[o3 ne,oZ],g.n0,g.nB,by simp[g.len],by simp[g.len'],?_,?_,λi c ds e1 e2=>?_⟩
 ·rw[bR];refine⟨g.nd,by simp,λx hx y hy=>?_⟩;rw[bb]at hy;subst hy;exact λz=>np (z▸hx)
 ·rw[bR];refine⟨g.kd,by simp,λx hx y hy=>?_⟩;rw[bb]at hy;subst hy;exact λz=>hk (z▸hx)
 ·by_cases hi:i<bs.length
  ·rw[cY hi]at e1;rw[cY (by rw[<-g.len'];exact hi)]at e2;obtain⟨ys,w1,w2,w3,w4⟩:=g.each i c ds e1 e2;have nc:c≠p:=λz=>np (z▸bF e1);have na:c≠a:=λz=>by subst z;rw[g.at_]at w1;cases w1
   exact⟨ys,by rw[o3 nc,o3 na,o3 nc];exact w1,w2,w3,w4⟩
  ·have hi':i=bs.length:=by have:i<(bs++[p]).length:=(br.mp e1).1;rw[au,bf]at this;omega
   subst hi';rw[dr (aC _),gQ]at e1;rw[g.len',dr (aC _),gQ]at e2;cases e1;cases e2;exact⟨[v],oZ,h0,hB,pI rd pB⟩
def Dd(G:Bg)(fk:FE):TS:=GA (tBM G.K "list" BH (Ip (vH 1) (tF G fk) (QC Cn)) (zv (vH 2) Cn))
theorem Iv{D0:Ends}{d x:D}{k:Key}{vr:V}(R:o8 G F σ ρ H0 H)(no:∀s∈ρ,s.own=false)(h1:σ[1]?=some (some (.ref a)))(h2:σ[2]?=some (some vr))(rd:Rep G H0 d vr)
  (g:Grp G F H0 H a ks dss bs) (hk:fk ρ=some (x,ρ)) (ek:wK x=some k) (l1:ks.length<1000) (l2:∀ds∈dss,ds.length<1000)
  (kont:∀Hi Hj bs',oW H0 Hi->o8 G F σ ρ Hi Hj->Grp G F Hi Hj a (vU ks dss k d).1 (vU ks dss k d).2 bs'->D0.nx σ Hj):Dd G fk D0 σ H:=by
 refine⟨.ref a,h1,a,rfl,.inl ⟨_,.inl g.at_⟩,_,_,_,x,ρ,o8.still R no,hk,λv H1 H1' s R1 r=>?_⟩;have hs:oW H H1':=λb o e=>R1.keep b o e (by simp);have hf:∀b o,H1 b=some o->H0 b=some o\/H b=none:=R1.fr;have R2:o8 G F σ ρ H1 H1':=R.grow hs s R1.sub hf;have g2:Grp G F H1 H1' a ks dss bs:=g.grow hs s hf;have rd2:=Rep.mono s _ _ rd;refine⟨cb _,λp hp=>?_⟩;have np:a≠p:=λz=>by subst z;rw[g2.at_]at hp;cases hp
 have R3:o8 G F σ ρ H1 (upd H1' p (.lst [])):=R2.newOwn hp _;have g3:Grp G F H1 (upd H1' p (.lst [])) a ks dss bs:=g2.grow (o6 hp _) (oW.refl _) λb o e=>.inl e;have lz:(ks.zip (bs.map V.ref)).length<aB:=by rw[fK,ag,<- g.len,fO,cE];omega
 refine⟨_,k,g3.at_,xJ r ek,lz,λw ev=>?_,λev=>?_⟩
 ·obtain⟨j,e1,e2⟩:=Ir (by rw[ag];exact g.len) ev;rw[aY]at e2;cases eb:bs[j]? with
  |none=>rw[eb]at e2;cases e2
  |some b=>
   rw[eb]at e2;cases e2;obtain⟨ds,ed⟩:∃ds,dss[j]?=some ds:=⟨dss[j]'(by rw[<-g.len'];exact(br.mp eb).1),aQ _⟩;obtain⟨xs,w1,w2,w3,w4⟩:=g3.each j b ds eb ed;have lx:xs.length<aB:=by rw[<-oM w4,cE];have:=l2 ds (bF ed);omega
   refine⟨.inl ⟨rfl,xs,SqL.of w1⟩,vr,h2,b,xs,vr,rfl,rfl,w1,lx,?_⟩;refine kont H1 _ bs s (o8.touch R3 no (λc o e z=>?_) λc o e=>?_) (g3.more e1 eb w1 rd2)
   ·have nc:c≠b:=λy=>by
     subst y;rcases z with z|z
     ·exact z w2
     ·exact z w3
    rw[o3 nc];exact e
   ·by_cases y:c=b
    ·subst y;exact⟨_,oZ⟩
    ·rw[o3 y];exact⟨o,e⟩
 ·have nk:=Iu (by rw[ag];exact g.len) ev;have h0p:H1 p=none:=R2.h0none hp;have hBp:F.B p=none:=R2.bNone hp;have ez:putK (ks.zip (bs.map V.ref)) k (.ref p)=(ks++[k]).zip ((bs++[p]).map V.ref):=by rw[G0 _ ev,bj,lA (by rw[ag];exact g.len)];rfl
  rw[ez];have q0:upd (upd H1' p (.lst [])) a (.dK ((ks++[k]).zip ((bs++[p]).map V.ref))) p=some (.lst []):=by rw[o3 (λz=>np z.symm),oZ]
  refine⟨.inl ⟨rfl,[],SqL.of q0⟩,vr,h2,p,[],vr,rfl,rfl,q0,by rw[cE];decide,?_⟩;refine kont H1 _ (bs++[p]) s (o8.touch R3 no (λc o e z=>?_) λc o e=>?_) (g2.fresh nk hp h0p hBp rd2)
  ·have n1:c≠p:=λy=>by
    subst y;rcases z with z|z
    ·exact z h0p
    ·exact z hBp
   have n2:c≠a:=λy=>by
    subst y;rcases z with z|z
    ·exact z g2.n0
    ·exact z g2.nB
   rw[bM,o3 n1,o3 n2];exact e
  ·by_cases y:c=p
   ·subst y;exact⟨_,oZ⟩
   ·rw[o3 y];by_cases y2:c=a
    ·subst y2;exact⟨_,oZ⟩
    ·rw[o3 y2];exact⟨o,e⟩
end
def ve(vk:D->Option D):List D->List Key->List (List D)->Option (List Key×List (List D))
 |[],ks,dss=>some (ks,dss)
 |d::r,ks,dss=>match vk d with
  |some x=>match wK x with
   |some k=>if (decide (ks.length<1000)&&dss.all λds=>decide (ds.length<1000))=true then ve vk r (vU ks dss k d).1 (vU ks dss k d).2 else none
   |none=>none
  |none=>none
def D1(vk:D->Option D):FS:=λρ=>match ρ with
 |[.im (.lst L),.un,.un]=>match ve vk L [] []with
  |some (ks,dss)=>some (.rt (.dic ks (dss.map .lst)) [.im (.lst L),.un,.un])
  |none=>none
 |_=>none
section
variable{X:Cx}{G:Bg}
theorem yO{Hq:Hp}:∀(bs:List Addr) (dss:List (List D)),bs.length=dss.length->(∀(i:Nat) (b:Addr) (ds:List D),bs[i]?=some b->dss[i]?=some ds->∃xs,Hq b=some (.lst xs)/\oN G Hq ds xs)->
  oN G Hq (dss.map .lst) (bs.map V.ref)
 |[],[],_,_=>pB
 |[],_::_,h,_=>by cases h
 |_::_,[],h,_=>by cases h
 |b::bs,ds::dss,h,k=>by obtain⟨xs,h1,h2⟩:=k 0 b ds rfl rfl;exact pI (uZ h1 h2) (yO bs dss (by simpa using h) λi b ds e1 e2=>k (i+1) b ds e1 e2)
theorem K8{F:Fr}{σ:St}{H0 H:Hp}{dss:List (List D)}{bs:List Addr}{L:List D}{s2:Sl}(R:o8 G F σ [.im (.lst L),.un,s2] H0 H)(g:Grp G F H0 H a ks dss bs)(o:Obj):
  ∃Hq,oW H0 Hq/\o8 G F σ [.im (.lst L),.un,.un] Hq (upd H a (.frz o (.dK (ks.zip (bs.map V.ref)))))/\Rep G Hq (.dic ks (dss.map .lst)) (.ref a):=by
 have mb:∀{b:Addr},b∈bs->∃xs,H b=some (.lst xs)/\H0 b=none/\F.B b=none:=λ{b} hb=>by obtain⟨i,hi,e⟩:=iA hb;obtain⟨xs,w1,w2,w3,_⟩:=g.each i b (dss[i]'(by rw[<-g.len'];exact hi)) (by rw[aQ hi,e]) (aQ _);exact⟨xs,w1,w2,w3⟩
 have na:a∉bs:=λz=>by obtain⟨xs,w1,_⟩:=mb z;rw[g.at_]at w1;cases w1
 have s0:oW H0 (λc=>if c=a then some (.frz o (.dK (ks.zip (bs.map V.ref))))else if c∈bs then H c else H0 c):=λc u e=>by
  have n1:c≠a:=λz=>by subst z;rw[g.n0]at e;cases e
  have n2:c∉bs:=λz=>by obtain⟨_,_,w2,_⟩:=mb z;rw[w2]at e;cases e
  show (if c=a then _ else if c∈bs then H c else H0 c)=_;rw[ai n1,ai n2];exact e
 refine⟨_,s0,?_,?_⟩
 ·exact {
   sub:=λc u e=>by
    have e':(if c=a then some (HO.frz o (.dK (ks.zip (bs.map V.ref))))else if c∈bs then H c else H0 c)=some u:=e;by_cases n1:c=a
    ·subst n1;rw[ah rfl]at e';rw[oZ];exact e'
    ·rw[ai n1]at e';rw[o3 n1];by_cases n2:c∈bs
     ·rw[ah n2]at e';exact e'
     ·rw[ai n2]at e';exact R.sub _ _ e'
   g0:=R.g0.trans s0
   keep:=λc u e n=>by rw[o3 (λz=>by subst z;rw[g.nB]at e;cases e)];exact R.keep c u e n
   fr:=λc u e=>by
    have e':(if c=a then some (HO.frz o (.dK (ks.zip (bs.map V.ref))))else if c∈bs then H c else H0 c)=some u:=e;by_cases n1:c=a
    ·subst n1;exact .inr g.nB
    ·rw[ai n1]at e';by_cases n2:c∈bs
     ·obtain⟨_,_,_,w3⟩:=mb n2;exact .inr w3
     ·rw[ai n2]at e';exact R.fr _ _ e'
   am:=λc hc=>by
    by_cases n1:c=a
    ·subst n1;exact⟨_,oZ⟩
    ·rw[o3 n1];exact R.am c hc
   len:=R.len
   sl:=λi s e=>by
    match i,e with
    |0,e=>cases e;obtain⟨v,w1,w2⟩:=R.sl 0 _ rfl;exact⟨v,w1,Rep.mono s0 _ _ w2⟩
    |1,e=>cases e;trivial
    |2,e=>cases e;trivial
    |i+3,e=>cases e
   ap:=λi j s t b _ e _ so=>by
    match i,e with
    |0,e=>cases e;cases so
    |1,e=>cases e;cases so
    |2,e=>cases e;cases so
    |i+3,e=>cases e }
 ·unfold Rep;refine⟨a,o,bs.map V.ref,rfl,by show (if a=a then _ else _)=_;rw[ah rfl],by rw[ag];exact g.len,yO bs dss g.len' λi b ds e1 e2=>?_⟩;obtain⟨xs,w1,w2,w3,w4⟩:=g.each i b ds e1 e2;have hb:=bF e1;refine⟨xs,?_,oN.mono s0 _ _ w4⟩;show (if b=a then _ else if b∈bs then H b else H0 b)=_;have nb:b≠a:=λz=>na (by rw[<-z];exact hb);rw[ai nb,ah hb];exact w1
def Iw{L:List D}{s2:Sl}(h:s2.own=false):∀s∈[Sl.im (.lst L),.un,s2],s.own=false:=λs hs=>by
 simp only[aP,kY,or_false]at hs;rcases hs with rfl|rfl|rfl
 ·rfl
 ·rfl
 ·exact h
inductive GI(G:Bg) (F:Fr) (Ha:Hp) (p:Addr) (L:List D) (vk:D->Option D) (KS:List Key) (DSS:List (List D)) (i:Nat) (σ':St) (H':Hp):Prop
 |mk (Hi:Hp) (ks:List Key) (dss:List (List D)) (bs:List Addr) (s2:Sl):oW Ha Hi->Sl.own s2=false->o8 G F σ' [.im (.lst L),.un,s2] Hi H'->σ'[1]?=some (some (.ref p))->Grp G F Hi H' p ks dss bs->ve vk (L.drop i) ks dss=some (KS,DSS)->GI G F Ha p L vk KS DSS i σ' H'
theorem Gb{st1 st2 st3:Stmt}{vk:D->Option D}(h1:PS X st1 (yf DH (uA 1)))(h2:PS X st2 (MW (tFI G (iL (cV 0))) (uA 2) (Dd G (c1 vk (cV 2)))))
  (h3:PS X st3 (Qp (λσ H Q=>vH 1 σ H λx H1=>Q x H1\/∃a kvs,H1 a=some (.dK kvs)/\∀o,Q x (upd H1 a (.frz o (.dK kvs)))))):PSs X [st1,st2,st3] (tFS G (D1 vk)):=
 PSs.weak (xn h1 (xn h2 (zd h3))) λE σ H hh=>by
  obtain⟨F,ρ,H0,o,R,e,k,k2⟩:=hh;unfold D1 at e;split at e
  ·rename_i L;cases eg:ve vk L [] []with
   |none=>simp only[eg]at e;cases e
   |some p=>
    obtain⟨KS,DSS⟩:=p;simp only[eg]at e;cases e;intro p hp;have R1:o8 G F (σ.set 1 (some (.ref p))) [.im (.lst L),.un,.un] H0 (upd H p (.dK [])):=(R.newOwn hp (.dK [])).set (i:=1) (v:=.ref p) (s:=.un) trivial (λz=>by cases z);have hlen:σ.length=3:=R.len;have g1:Grp G F H0 (upd H p (.dK [])) p [] [] []:=⟨oZ,R.h0none hp,R.bNone hp,rfl,rfl,gB,gB,λi b ds e1=>by cases e1⟩;have v1:(σ.set 1 (some (V.ref p)))[1]?=some (some (.ref p)):=by rw[gb (by rw[hlen];decide)]
    refine⟨_,_,_,L,_,o8.still R1 (Iw rfl),rfl,λJ Ha Hb s Ra wk=>?_⟩;have hs:oW (upd H p (.dK [])) Hb:=λb o e=>Ra.keep b o e (by simp);have R2:=R1.grow hs s Ra.sub Ra.fr;have g2:=g1.grow hs s Ra.fr;refine⟨λi m σ' H'=>m=L.length - i/\i<=L.length/\GI G F Ha p L vk KS DSS i σ' H',
     ⟨_,rfl,cb _,Ha,[],[],[],.un,oW.refl _,rfl,R2,v1,g2,eg⟩,?_⟩
    rintro i m σi Hi' ⟨rfl,hi,Hi,ks,dss,bs,s2,si,n2,Ri,vi,gi,ei⟩;by_cases hlt:i<L.length
    ·have ed:L.drop i=L[i]::L.drop (i+1):=ie hlt;rw[ed]at ei;unfold ve at ei;cases ev:vk L[i]with
     |none=>simp only[ev]at ei;cases ei
     |some x=>
      simp only[ev]at ei;cases ek:wK x with
      |none=>simp only[ek]at ei;cases ei
      |some kk=>
       simp only[ek]at ei;split at ei
       ·rename_i hb;simp only[aE,bc,aD]at hb;obtain⟨go,yl⟩:=(wk i Hi Hi' si Ri.sub).1 L[i] (aQ hlt);refine .inr ⟨go,GI G F Ha p L vk KS DSS (i+1),
         λσ' H' q=>⟨L.length - (i+1),by omega,rfl,hlt,q⟩,λxv H' y=>?_⟩
        obtain⟨H2,t1,t2,t3,t4,t5⟩:=yl xv H' y;have hl3:σi.length=3:=Ri.len;have R3:o8 G F (σi.set 2 (some xv)) [.im (.lst L),.un,.im L[i]] H2 H':=(Ri.grow t3 t1 t2 t4).setIm 2 t5;have w1:(σi.set 2 (some xv))[1]?=some (some (.ref p)):=by rw[iu (by decide)];exact vi
        have w2:(σi.set 2 (some xv))[2]?=some (some xv):=by rw[gb (by rw[hl3];decide)]
        refine Iv R3 (Iw rfl) w1 w2 t5 (gi.grow t3 t1 t4) (by show c1 vk (cV 2) _=_;unfold c1 cV;simp only[jP,jQ,ev]) ek hb.1 (λds hd=>hb.2 ds hd) λHc Hd bs' sc Rc gc=>?_;exact⟨Hc,_,_,bs',_,si.trans (t1.trans sc),rfl,Rc,w1,gc,ei⟩
       ·cases ei
    ·have hi':i=L.length:=by omega
     refine .inl ⟨(wk i Hi Hi' si Ri.sub).2 hi',?_⟩;subst hi';rw[List.drop_length]at ei;cases ei;refine⟨.ref p,vi,.inr ⟨p,_,gi.at_,λo=>?_⟩⟩;obtain⟨Hq,q1,q2,q3⟩:=K8 Ri gi o;exact k _ _ Hq _ (s.trans (si.trans q1)) q2 q3
  ·cases e
end
section
variable{X:Cx}{G:Bg}
theorem K9:∀y b,qF "int" y=some b->cv X.K (y.val G) (.type "int")=some b:=λy b h=>by
 cases y with
 |c k=>cases h
 |b n=>
  unfold qF at h;simp only at h
  iterate 7 (split at h;· rename_i e;subst e;cases h;first|rfl|kernel_rfl)
  cases h
theorem Iy:∀y b,qF "bool" y=some b->cv X.K (y.val G) (.type "bool")=some b:=λy b h=>by
 cases y with
 |c k=>cases h
 |b n=>
  unfold qF at h;simp only at h
  iterate 7 (split at h;· rename_i e;subst e;cases h;first|rfl|kernel_rfl)
  cases h
theorem kit_tuple:∀y b,qF "tuple" y=some b->cv X.K (y.val G) (.type "tuple")=some b:=λy b h=>by
 cases y with
 |c k=>cases h
 |b n=>
  unfold qF at h;simp only at h
  iterate 7 (split at h;· rename_i e;subst e;cases h;first|rfl|kernel_rfl)
  cases h
end
end L4
namespace L4
open PySem PySem.Spec PySem.Calls PyProof.Rows PySem.W L2 L3
inductive tT:List aa->List Str->Prop
 |nil:tT [] []
 |cons (x:Str) (t:Tok) {vs:List aa} {xs:List Str} (h:tT vs xs):tT (.str x t::vs) (x::xs)
section
variable{X:Cx}{G:Bg}{pins:List (Addr×Obj)}{σ:St}{H:Hp}{s:ae}
def xN:List D->Option (List Str)
 |[]=>some []
 |.str x::ds=>match xN ds with
  |some xs=>some (x::xs)
  |none=>none
 |_=>none
theorem z4:∀{ds:List D} {xs:List V} {l:List Str},oN G H ds xs->xN ds=some l->xs=l.map V.str
 |[],xs,l,r,e=>by cases e;unfold oN at r;exact r
 |d::ds,xs,l,r,e=>by
  cases d with
  |str x=>
   unfold xN at e;cases e1:xN ds with
   |none=>rw[e1]at e;cases e
   |some l'=>rw[e1]at e;cases e;unfold oN at r;obtain⟨v,r',rfl,h1,h2⟩:=r;unfold Rep at h1;subst h1;rw[z4 h2 e1,aF]
  |_=>cases e
end
end L4
namespace L4
open PySem PySem.Spec PyProof.Rows L2 L3
variable{f f':FE}
section
variable{X:Cx}{G:Bg}
theorem Gc:∀σ H Q,tF G (c2 (zc true) f f') σ H Q->EA (tF G f) (tF G f') σ H Q:=λσ H Q hh=>by
 obtain⟨F,ρ,H0,d,ρ',R,e,k⟩:=hh;obtain⟨y,x,ρ1,e1,e2,e3⟩:=xC e;refine⟨F,ρ,H0,y,ρ1,R,e1,λu H1 H1' s1 R1 r1=>⟨F,ρ1,H1,x,ρ',R1,e2,λv H2 H2' s2 R2 r2=>?_⟩⟩;cases x with
 |dic ks ds=>
  unfold zc at e3;cases ek:wK y with
  |none=>simp only[ek]at e3;cases e3
  |some j=>
   simp only[ek]at e3;cases e3;unfold Rep at r2;obtain⟨p,ob,xs,rfl,h1,h2,h3⟩:=r2;have lv:=zW (ks:=ks) j h3 h2;refine⟨p,r9 (ks.zip xs) j,rfl,?_,?_⟩
   ·rw[xJ r1 ek];exact DGet.kf (R2.sub _ _ h1)
   ·cases el:r6 ks ds j with
    |none=>rw[el]at lv k;rw[lv];exact k _ _ _ (s1.trans s2) R2 (qp _)
    |some z=>rw[el]at lv k;obtain⟨w,w1,_⟩:=lv;rw[w1];exact k _ _ _ (s1.trans s2) R2 (qp _)
 |_=>unfold zc at e3;cases e3
theorem IA{a b:Expr}{pos:Pos}(hu:X.A.units+1<cLine)(ha:PE X a (tF G f))(hb:PE X b (tF G f'))(h1:cD .NotIn b=false:=by rfl):PT X (.Compare a [.NotIn] [b] pos) (tFT G (cT (c2 (zc true) f f'))):=PT.weak (Gx (FK hu ha hb) h1) λσ H Q hh=>Gc σ H _ (zf σ H Q hh)
end
def EU:List String:=["NoneType", "bool", "int", "str", "tuple", "list", "dict"]
def z5(n c:Nat):Ty->Option Bool:=λy=>match y with
 |.b x=>if EU.contains x=true then some false else none
 |.c k=>if k<n then some (k==c)else none
def xO(K:ak)(cs:List Addr)(C:Addr)(c:Nat):Bool:=
 EU.all (λx=>cv K (.type x) (.ref C)==some false)&&(aT cs.length).all λk=>cv K (.ref (cs.getD k 0)) (.ref C)==some (k==c)
theorem yx{B:Bg}{n c:Nat}{cs:List Addr}(h:xO B.K cs (B.ca c) c=true)(hn:cs.length=n)(hc:∀k,k<n->cs.getD k 0=B.ca k)(hI:∀k,k<n->F3 B.K (B.ca k)):DT B c (z5 n c):=by
 unfold xO at h;rw[aE,aD,aD]at h;refine⟨λy b e=>?_,λj b e=>?_⟩
 ·cases y with
  |b x=>
   unfold z5 at e;simp only at e;split at e
   ·rename_i hx;cases e;exact dH (h.1 x (j2.mp hx))
   ·cases e
  |c k=>
   unfold z5 at e;simp only at e;split at e
   ·rename_i hk;cases e;have:=dH (h.2 k (bN.mpr (by omega)));rw[hc k hk]at this;exact this
   ·cases e
 ·unfold z5 at e;simp only at e;split at e
  ·rename_i hk;exact hI j hk
  ·cases e
theorem Ob{l:List Addr}(h:l.Nodup){j k:Nat}(hj:j<l.length)(hk:k<l.length)(e:l.getD j 0=l.getD k 0):j=k:=by
 rw[eC,eC,aQ hj,aQ hk]at e;have pw:=fZ.mp h;rcases kN j k with y|y|y
 ·exact ao e (pw j k hj hk y)
 ·exact y
 ·exact ao e.symm (pw k j hk hj y)
variable{x:Str}
section
variable{B:Bg}{K:ak}{mg:Str->Option aa}{h:Heap}
theorem const_int{i:Int}{t:Tok}(X:K.In h)(Gn:h.Ns aK mg)(e:eV K aK x=some (some (.int i t))):wu B mg x (.int i):=
 ⟨.int i,_,hU X Gn e,⟨_,rfl⟩,λ_=>qo _⟩
inductive vg:List aa->List Str->Prop
 |nil:vg [] []
 |cons {v:aa} {x:Str} {t:Tok} {vs:List aa} {xs:List Str} (e:v=.str x t) (h:vg vs xs):vg (v::vs) (x::xs)
theorem vg.vals{vs:List aa}{xs:List Str}(h:vg vs xs):Vals (xs.map V.str) vs:=by
 induction h with
 |nil=>exact .nil
 |cons e h ih=>exact .cons ⟨_,e⟩ ih
theorem z6{H:Hp}:∀xs:List Str,oN B H (xs.map D.str) (xs.map V.str)
 |[]=>pB
 |x::xs=>pI (wt x) (z6 xs)
theorem D2{a:Addr}{o:Obj}{its:Array aa}{n:Nat}(xs:List Str)(X:B.K.In h)(Gn:h.Ns aK mg)(e:eV B.K aK x=some (some (.ref a)))(l:B.K.lookup a=some o)(hc:o.cls=.type "tuple")(hd:o.data=.seq its n)(hz:its.size<=1000)
  (r:vg its.toList xs):wu B mg x (.tup (xs.map D.str)):=
 ⟨.ref a,_,hU X Gn e,rfl,λH=>uY (.inr ⟨o,its,n,l,hc,hd,by rw[cE];omega,r.vals⟩) (z6 xs)⟩
end
variable{l ns:List Str}
section
variable{f g' h:FS}{c:FT}{e e' e2:FE}{a a':FA}{ρ ρ' ρ1 ρ2 ρ3:List Sl}{d x y z:D}{ds xs ys:List D}{k:Nat}{cap:List Nat}{g:FG}{ft:FT}{fe:FE}
theorem z7{α:Type}(dd:α->D)(p:α->Bool)(h:α->D):∀l:List α,
  (∀a∈l,∃ρ1 ρ2,g (dd a) (yp k cap ρ)=some ρ1/\ft ρ1=some (p a,ρ2)/\(p a=true->∃ρ3,fe ρ2=some (h a,ρ3)/\rN cap (ρ3.drop k) ρ=some ρ)/\(p a=false->rN cap (ρ2.drop k) ρ=some ρ))->
  sE k cap g ft fe (l.map dd) ρ=some ((l.filter p).map h,ρ)
 |[],_=>rfl
 |a::l,st=>by
  obtain⟨ρ1,ρ2,h1,h2,h3,h4⟩:=st a aG;have ih:=z7 dd p h l λa' ha=>st a' (aH _ ha);rw[aF];unfold sE;rw[h1];simp only[h2];cases hp:p a with
  |true=>obtain⟨ρ3,h5,h6⟩:=h3 hp;simp only[h5,h6,ih,kZ,hp,if_true,aF]
  |false=>simp only[h4 hp,ih,kZ,hp];rfl
theorem La{α:Type}(dd:α->D)(h:α->D)(l:List α)(st:∀a∈l,∃ρ1 ρ3,g (dd a) (yp k cap ρ)=some ρ1/\fe ρ1=some (h a,ρ3)/\rN cap (ρ3.drop k) ρ=some ρ):sE k cap g pF fe (l.map dd) ρ=some (l.map h,ρ):=by have:=z7 (ft:=pF) dd (λ_=>true) h l λa ha=>let ⟨ρ1,ρ3,h1,h2,h3⟩:=st a ha;⟨ρ1,ρ1,h1,rfl,λ_=>⟨ρ3,h2,h3⟩,λz=>by cases z⟩;rw[this,List.filter_eq_self.mpr λ_ _=>rfl]
theorem rh(neg:Bool)(a b:Str):dEq neg (.str a) (.str b)=some (.bl (if neg then !decide (a=b)else decide (a=b))):=by
 have e:CP neg (.str a) (.str b)=some (.bl (if neg then !decide (V.str a=V.str b)else decide (V.str a=V.str b))):=rfl;have e2:decide (V.str a=V.str b)=decide (a=b):=by
  by_cases h:a=b
  ·subst h;simp
  ·rw[aU h,aU (λz=>h (by injection z))]
 unfold dEq;rw[e,e2]
theorem IB(a:Str)(l:List Str):inV (V.str a) (l.map V.str)=decide (a∈l):=by
 unfold inV;rw[bS,cN,bc];constructor
 ·rintro⟨v,hv,he⟩;obtain⟨b,hb,rfl⟩:=aI.mp hv;have:b=a:=by unfold eqV at he;simpa using he
  rw[<-this];exact hb
 ·intro ha;refine⟨.str a,cM ha,?_⟩;unfold eqV;simp
theorem Gd(l:List Str):(l.map D.str).all qE=true:=by rw[fP,aD];intro x _;rfl
theorem Lb(l:List Str):(l.map D.str).map vD=l.map V.str:=by rw[bx];rfl
theorem qb(neg:Bool)(a:Str)(l:List Str):dIn neg (.str a) (.lst (l.map D.str))=some (.bl (if neg then !decide (a∈l)else decide (a∈l))):=by unfold dIn;show (if qE (.str a)&&(l.map D.str).all qE then some (D.bl (if neg then !inV (vD (.str a)) ((l.map D.str).map vD)else inV (vD (.str a)) ((l.map D.str).map vD)))else none)=_;rw[Gd,Lb];show some (D.bl (if neg then !inV (V.str a) (l.map V.str)else inV (V.str a) (l.map V.str)))=_;rw[IB]
theorem xP(neg:Bool)(a:Str)(l:List Str):dIn neg (.str a) (.tup (l.map D.str))=some (.bl (if neg then !decide (a∈l)else decide (a∈l))):=qb neg a l
theorem BX:∀bs:List Bool,AK (bs.map D.bl)=some bs
 |[]=>rfl
 |b::bs=>by rw[aF];unfold AK;rw[BX bs];rfl
theorem IC(bs:List Bool):qW (.lst (bs.map D.bl))=some (.bl (bs.all id)):=by unfold qW;simp only[BX];rfl
theorem ID(bs:List Bool):zY (.lst (bs.map D.bl))=some (.bl (bs.any id)):=by unfold zY;simp only[BX];rfl
theorem Lc{α:Type}(l:List α)(p:α->Bool):qW (.lst (l.map λa=>D.bl (p a)))=some (.bl (l.all p)):=by rw[show (l.map λa=>D.bl (p a))=(l.map p).map D.bl by rw[bx];rfl,IC,fP];rfl
theorem Ld{α:Type}(l:List α)(p:α->Bool):zY (.lst (l.map λa=>D.bl (p a)))=some (.bl (l.any p)):=by rw[show (l.map λa=>D.bl (p a))=(l.map p).map D.bl by rw[bx];rfl,ID,List.any_map];rfl
theorem z8:∀l:List Str,wR (l.map D.str)=some (l.map Sum.inr)
 |[]=>rfl
 |x::l=>by rw[aF];unfold wR;rw[z8 l];rfl
theorem IE:∀(l acc:List Key),(acc++l).Nodup->l.foldl ddp acc=acc++l
 |[],acc,_=>by rw[bH];rfl
 |k::l,acc,h=>by
  have hn:acc.any (λz=>decide (z=k))=false:=by rw[gq];intro z;obtain⟨y,hy,ey⟩:=cN.mp z;rw[bR]at h;exact h.2.2 y hy k aG (bC ey)
  rw[cA,show ddp acc k=acc++[k] by unfold ddp;rw[hn];rfl,IE l (acc++[k]) (by simpa using h)];simp
theorem A5(h:l.Nodup):(l.map (Sum.inr:Str->Key)).Nodup:=by unfold List.Nodup at h ⊢;rw[kO];exact h.imp λhne z=>hne (gR z)
theorem De(h:l.Nodup)(hl:l.length<=1000):qv (l.map D.str)=some (.int l.length):=by unfold qv;rw[z8];simp only[ag,hl,if_true];unfold tG;rw[IE _ [] (by simpa using A5 h)];simp
theorem wD(neg:Bool)(a b:Int):dEq neg (.int a) (.int b)=some (.bl (if neg then !decide (a=b)else decide (a=b))):=by
 have e:CP neg (.int a) (.int b)=some (.bl (if neg then !decide (V.int a=V.int b)else decide (V.int a=V.int b))):=rfl;have e2:decide (V.int a=V.int b)=decide (a=b):=by
  by_cases h:a=b
  ·subst h;simp
  ·rw[aU h,aU (λz=>h (by injection z))]
 unfold dEq;rw[e,e2]
theorem qj(h1:e ρ=some (.bl true,ρ1)):qu e e' ρ=e' ρ1:=by unfold qu;rw[h1]
theorem wF{g:Nat->Option (List D->Option D)}{m:Str}{c:Nat}{hh:List D->Option D}(h1:e ρ=some (.obj c ns xs,ρ1))(h2:g c=some hh)(h3:ns.contains m=false)(h4:a ρ1=some (ys,ρ2))(h5:hh (.obj c ns xs::ys)=some d):rE g m e a ρ=some (d,ρ2):=by unfold rE;rw[h1];simp only[h2,h3,h4,h5];rfl
theorem zi{c:Nat}{g:List D->Option (List Str×List D)}(h1:a ρ=some (ds,ρ1))(h2:g ds=some (ns,xs)):pE c g a ρ=some (.obj c ns xs,ρ1):=by unfold pE;rw[h1];simp only[h2]
theorem IF{np n:Nat}{b:FS}(hl:ds.length=np)(h:b (L4.stE n ds)=some (.rn xs ρ)):fnD np n b ds=some (.lst xs):=by unfold fnD;rw[ah hl,h]
theorem z9:∀{ks:List Key} {ds:List D} {k:Key} {d:D},ks.Nodup->(k,d)∈ks.zip ds->r6 ks ds k=some d
 |[],_,k,d,_,h=>by simp at h
 |k'::ks,[],k,d,_,h=>by simp at h
 |k'::ks,d'::ds,k,d,nd,h=>by
  unfold r6;rw[dw]at h;rcases aP.mp h with e|h
  ·cases e;rw[ah rfl]
  ·rw[dD]at nd;rw[ai (λz=>nd.1 (by subst z;exact(gw h).1))];exact z9 nd.2 h
theorem A6:∀{ks:List Key} {ds:List D} {k:Key},k∉ks->r6 ks ds k=none
 |[],ds,k,_=>by unfold r6;rfl
 |k'::ks,[],k,_=>by unfold r6;rfl
 |k'::ks,d'::ds,k,h=>by unfold r6;rw[ai (λz=>h (by subst z;exact aG))];exact A6 λz=>h (aH _ z)
end
end L4
namespace L4
open PySem PySem.Spec PyProof.Rows L2 L3
open PySem.W (nsIn findIn keepIn isFn makesIn fnOf)
def D3{α:Type}:Nat->(List α->Prop)->Prop
 |0,P=>P []
 |n+1,P=>∀a,D3 n λl=>P (a::l)
theorem zj{α:Type}:∀{n:Nat} {P:List α->Prop},D3 n P->∀l,l.length=n->P l
 |0,P,h,[],_=>h
 |n+1,P,h,a::l,e=>zj (P:=λl=>P (a::l)) (h a) l (fQ e)
structure CF(K:ak)(C:Addr)(xs:List Str):Prop where
 ci:F3 K C
 mks:makesIn K C=true
 kp:keepIn K (.ref C)=true
 na:(xs.all λx=>match findIn K (.ref C) x with|some none=>true|_=>false)=true
theorem CF.at{K:ak}{C:Addr}{xs:List Str}(c:CF K C xs)(i:Nat){x:Str}(h:xs[i]?=some x):Cls K C/\tE K C x:=⟨c.ci.cl,by
 have e:=aD.mp c.na x (bF h);unfold tE;split at e
 ·rename_i e1;exact e1
 ·cases e⟩
variable{i:Nat}
theorem wL{Q:Nat->Prop}(h:Q i):∀c,(c==i)=true->Q c:=λc e=>by rw[beq_iff_eq]at e;subst e;exact h
theorem orQ{Q:Nat->Prop}{p:Nat->Bool}(h:∀c,p c=true->Q c)(h':Q i):∀c,(p c||c==i)=true->Q c:=λc e=>by
 rw[gy]at e;rcases e with e|e
 ·exact h c e
 ·exact wL h' c e
structure Yw(P:ar)(w:aq)(mg:Str->Option aa)(base:Heap)(G:Bg):Prop where
 m:∃h:Heap,G.K.In h/\h.Ns aK mg
variable{np:Nat}{vs:List V}{us:List aa}
section
variable{P:ar}{w:aq}{mg:Str->Option aa}{base:Heap}{G:Bg}{x m qual:Str}{st:Stmt}{N ps:List Str}{k c:Nat}{K:ak}
theorem Yw.g(y:Yw P w mg base G){v:aa}(e:nsIn G.K aK x=some (some v)):mg x=some v:=by obtain⟨h,X,Gn⟩:=y.m;exact hU X Gn e
theorem Yw.n(y:Yw P w mg base G){xs:List Str}(h:(xs.all λx=>match nsIn G.K aK x with|some none=>true|_=>false)=true)(i:Nat)(hi:xs[i]?=some x):mg x=none:=by
 obtain⟨hh,X,Gn⟩:=y.m;have e:=aD.mp h x (bF hi);split at e
 ·rename_i e1;exact W.mg_none_of X Gn e1
 ·cases e
def GC(K:ak)(x:Str)(i:Int):Prop:=∃t:Tok,nsIn K aK x=some (some (.int i t))
theorem Yw.ci(y:Yw P w mg base G){i:Int}(q:GC G.K x i):wu G mg x (.int i):=by obtain⟨h,X,Gn⟩:=y.m;obtain⟨t,e⟩:=q;exact const_int X Gn e
def GS(K:ak)(x:Str)(xs:List Str):Prop:=∃(a:Addr) (o:Obj) (its:Array aa) (n:Nat),nsIn K aK x=some (some (.ref a))/\K.lookup a=some o/\o.cls=.type "tuple" /\ o.data=.seq its n/\its.size<=1000/\vg its.toList xs
theorem Yw.cs(y:Yw P w mg base G){xs:List Str}(q:GS G.K x xs):wu G mg x (.tup (xs.map D.str)):=by obtain⟨h,X,Gn⟩:=y.m;obtain⟨a,o,its,n,e,l,h1,h2,h3,h4⟩:=q;exact D2 xs X Gn e l h1 h2 h3 h4
def GD(K:ak)(x:Str)(st:Stmt):Prop:=∃(f:Addr) (fd:bA),nsIn K aK x=some (some (.ref f))/\Fun K x x st f fd
def GM(K:ak)(C:Addr)(m qual:Str)(st:Stmt):Prop:=∃(f:Addr) (fd:bA),findIn K (.ref C) m=some (some (.ref f))/\isFn K (.ref f)=true/\Fun K m qual st f fd
def GJ(K:ak)(C:Addr)(qual:Str)(st:Stmt)(vs:List V):Prop:=∃(f:Addr) (fd:bA) (T:Addr) (o:Obj) (dl:List aa) (n:Nat),findIn K (.ref C) "__init__" = some (some (.ref f))/\isFn K (.ref f)=true/\FQ K "__init__" qual st f fd T/\K.lookup T=some o/\o.data=.seq dl.toArray n/\Vals vs dl
abbrev Bdy(P:ar)(w:aq)(K:ak)(mg:Str->Option aa)(base:Heap)(N:List Str)(qual:Str)(st:Stmt)(k:Nat)(t:TS):Prop:=∀(f:Addr) (cdv:aa) (A:aw) (outer:List Env) (s:ae) (H:Hp) (E:XK),qg k (A.deeper (envOfC qual (o4 st) s.heap.objs.size f cdv))->PSs (vQ P w K mg base N qual st f cdv A outer s H E) (pA st) t
abbrev Bds(x qual:Str)(st:Stmt)(ps:List Str):Prop:=D3 ps.length λus=>∀(kV doc pm:aa) (an:Option Addr) (cdv ct:aa),bindArgs (fnOf x qual (rK st) (pA st) (o4 st) .none kV doc pm an cdv ct) ⟨us,[]⟩=pure (ps.zip us)
theorem Bds.ok{f:Addr}{fd:bA}(b:Bds x qual st ps)(F:Fun K x qual st f fd):Binds K fd ps []:=F.binds λkV doc pm an cdv ct us hl=>zj b us hl kV doc pm an cdv ct
theorem gD{sp:Sp}(y:Yw P w mg base G)(q:GD G.K x st)(bd:Bds x x st ps)(ok:∀f fd,Fun G.K x x st f fd->rJ P w G.K mg base CX0 k f fd ps sp):wQ P w G.K mg base k x ps sp:=by obtain⟨f,fd,a,F⟩:=q;exact⟨f,fd,y.g a,F.kp,bd.ok F,ok f fd F⟩
theorem gF{n:Nat}{g:List D->Option D}{b:FS}(hg:g=fnD np n b)(y:Yw P w mg base G)(q:GD G.K x st)(S:qt N ps (o4 st))(body:Bdy P w G.K mg base N x st k (tFS G b))(hp:ps.length=np:=by rfl)(hN:N.length=n:=by rfl)(bd:Bds x x st ps:=by (repeat intro _);rfl):wQ P w G.K mg base (k+1) x ps (spF G g):=
 gD y q bd λf fd F=>HV hg hp hN F S (body f)
theorem gN'{n:Nat}{g:List D->Option (List D)}{b:FS}(hg:g=fnN np n b)(y:Yw P w mg base G)(q:GD G.K x st)(S:qt N ps (o4 st))(body:Bdy P w G.K mg base N x st k (tFS G b))(hp:ps.length=np:=by rfl)(hN:N.length=n:=by rfl)(bd:Bds x x st ps:=by (repeat intro _);rfl):wQ P w G.K mg base (k+1) x ps (spN G g):=
 gD y q bd λf fd F=>Q7 hg hp hN F S (body f)
theorem gM{n:Nat}{g:List D->List D->Option (D×List D)}{b:FS}{p:Str}(hg:g=fnM np n b)(y:Yw P w mg base G)(q:GD G.K x st)(S:qt N (p::ps) (o4 st))(body:Bdy P w G.K mg base N x st k (tFS G b))(hp:ps.length=np:=by rfl)(hN:N.length=n:=by rfl)(bd:Bds x x st (p::ps):=by (repeat intro _);rfl):wQ P w G.K mg base (k+1) x (p::ps) (spM G g):=
 gD y q bd λf fd F=>Q8 hg hp hN F S (body f)
theorem gI{n:Nat}{g:List D->Option (List Str×List D)}{b:FS}{xs:List Str}{p:Str}(hg:g=fnI c np n b)(y:Yw P w mg base G)(C:CF G.K (G.ca c) xs)(a:nsIn G.K aK x=some (some (.ref (G.ca c))))(q:GM G.K (G.ca c) "__init__" qual st)(S:qt N (p::ps) (o4 st))(body:Bdy P w G.K mg base N qual st k (tFS G b))(hp:ps.length=np:=by rfl)(hN:N.length=n:=by rfl)(bd:Bds "__init__" qual st (p::ps):=by (repeat intro _);rfl):BQ G P w mg base (k+1) x c (p::ps) [] g:=by obtain⟨f,fd,i,i',F⟩:=q;exact⟨f,fd,[],⟨C.mks,i,i',C.kp⟩,y.g a,bd.ok F,.nil,Q9 hg hp hN F S (body f)⟩
theorem Dg(h:Vals vs us):us.length=vs.length:=by
 induction h with
 |nil=>rfl
 |cons _ _ ih=>rw[aA,aA,ih]
theorem Ge(h:Vals vs us):∀j,Vals (vs.drop j) (us.drop j):=by
 induction h with
 |nil=>intro j;rw[l6,l6];exact .nil
 |cons a b ih=>
  intro j;cases j with
  |zero=>exact .cons a b
  |succ j=>exact ih j
theorem gJ{n:Nat}{g:List D->Option (List Str×List D)}{b:FS}{xs:List Str}{p:Str}(hg:g=fnI c np n b)(y:Yw P w mg base G)(C:CF G.K (G.ca c) xs)(a:nsIn G.K aK x=some (some (.ref (G.ca c))))(q:GJ G.K (G.ca c) qual st vs)(S:qt N (p::ps) (o4 st))(body:Bdy P w G.K mg base N qual st k (tFS G b))(j:Nat)(hp:ps.length=np:=by rfl)(hN:N.length=n:=by rfl)
  (bd:D3 vs.length λdl=>D3 ((p::ps).length - (vs.drop j).length) λus=>∀(T:Addr) (kV doc pm:aa) (an:Option Addr) (cdv ct:aa),∃k,bindArgs (fnOf "__init__" qual (rK st) (pA st) (o4 st) (.ref T) kV doc pm an cdv ct) ⟨us,[]⟩=seqItems? (.ref T)>>=k/\k (some dl.toArray)=pure ((p::ps).zip (us++dl.drop j)):=by (repeat intro _);exact⟨_,rfl,rfl⟩):BQ G P w mg base (k+1) x c (p::ps) (vs.drop j) g:=by
 obtain⟨f,fd,T,o,dl,n,i,i',F,l,e,r⟩:=q;refine⟨f,fd,dl.drop j,⟨C.mks,i,i',C.kp⟩,y.g a,F.binds l e λkV doc pm an cdv ct us hl=>?_,Ge r j,NZ hg hp hN F S (body f)⟩;exact zj (zj bd dl (Dg r)) us (by rw[hl,eD,eD,Dg r]) T kV doc pm an cdv ct
end
end L4
namespace L4
open PySem PySem.Spec PyProof.Rows L2 L3
theorem Dh:∀{xs:List Str} {vs:List aa},Vals (xs.map V.str) vs->j7 vs xs
 |[],vs,h=>by cases h;exact .nil
 |x::xs,vs,h=>by
  cases h with
  |cons r h'=>obtain⟨t,rfl⟩:=r;exact .cons x t (Dh h')
section
variable{X:Cx}{G:Bg}{pins:List (Addr×Obj)}{σ:St}{H:Hp}{s:ae}
def wV:D->Option D
 |.int i=>some (.int (-i))
 |_=>none
theorem Od{a:Expr}{f:FE}{pos:Pos}(ha:PE X a (tF G f)):PE X (.UnaryOp .USub a pos) (tF G (c1 wV f)):=PE.weak (Qt M4 ha) λσ H Q hh=>by
 obtain⟨F,ρ,H0,d,ρ',R,e,k⟩:=hh;unfold c1 at e;split at e
 ·rename_i x ρ1 e1;cases x with
  |int i=>simp only[wV]at e;cases e;refine⟨F,ρ,H0,_,_,R,e1,λv H1 H1' s R' r=>?_⟩;unfold Rep at r;subst r;exact⟨i,rfl,k _ H1 H1' s R' (qo _)⟩
  |_=>simp only[wV]at e;cases e
 ·cases e
end
end L4
namespace L4
open PySem PySem.Spec PySem.Calls PyProof.Rows PySem.W L2 L3
structure Sto(c:Nat->Nat->Bool)(n:Nat):Prop where
 tr:∀i j k,i<n->j<n->k<n->c i j=true->c j k=true->c i k=true
 tot:∀i j,i<n->j<n->i≠j->c i j=false->c j i=true
section
variable{X:Cx}{G:Bg}{pins:List (Addr×Obj)}{σ:St}{H:Hp}{s:ae}
def Sm(K:ak)(H:Hp)(y:V)(k:List Str):Prop:=∃a p q,y=.ref a/\k=[p,q]/\SqT K H a [.str p,.str q]
end
def key2:D->Option (List Str)
 |.tup [.str p,.str q]=>some [p,q]
 |_=>none
def yP:List D->Option (List (List Str))
 |[]=>some []
 |d::ds=>match key2 d,yP ds with
  |some k,some ks=>some (k::ks)
  |_,_=>none
section
variable{X:Cx}{G:Bg}{H:Hp}
theorem IG{d:D}{v:V}{k:List Str}(r:Rep G H d v)(e:key2 d=some k):Sm G.K H v k:=by
 unfold key2 at e;split at e
 ·rename_i p q;cases e;unfold Rep at r;obtain⟨a,xs,rfl,h1,h2⟩:=r;unfold oN at h2;obtain⟨v1,r1,rfl,q1,q2⟩:=h2;unfold oN at q2;obtain⟨v2,r2,rfl,q3,q4⟩:=q2;unfold oN at q4;unfold Rep at q1 q3;subst q4 q1 q3;exact⟨a,p,q,rfl,rfl,h1⟩
 ·cases e
end
end L4
namespace L4
open PySem PySem.Spec PyProof.Rows L2 L3
structure Bz where
 P:ar
 w:aq
 mg:Str->Option aa
 base:Heap
 G:Bg
structure ZE(X:Cx)(B:Bz)(e:Expr)(f:FE):Prop where p:PE X e (tF B.G f)
structure ZN(X:Cx)(B:Bz)(e:Expr)(f:FA):Prop where p:PE X e (tFN B.G f)
structure ZT(X:Cx)(B:Bz)(e:Expr)(f:FT):Prop where p:PT X e (tFT B.G f)
structure ZW(X:Cx)(B:Bz)(e:Expr)(f:FT):Prop where p:PW X e (tFT B.G f)
structure ZF(X:Cx)(B:Bz)(e:List Expr)(f:FT):Prop where p:PIf X e (tFT B.G f)
structure ZA(X:Cx)(B:Bz)(e:List Expr)(f:FA):Prop where p:PA X e (tFA B.G f)
structure ZS(X:Cx)(B:Bz)(e:Stmt)(f:FS):Prop where p:PS X e (tFS B.G f)
structure ZB(X:Cx)(B:Bz)(e:List Stmt)(f:FS):Prop where p:PSs X e (tFS B.G f)
structure ZI(X:Cx)(B:Bz)(tg e:Expr)(f:FA):Prop where p:PI X tg e (tFI B.G f)
structure ZO(X:Cx)(B:Bz)(e:Option Expr)(f:FO):Prop where p:PO X e (tFO B.G f)
structure ZG(X:Cx)(B:Bz)(e:Expr)(n:Nat)(f:FG):Prop where p:PG X e (tFG B.G n f)
structure ZH(X:Cx)(B:Bz)(e:List Expr)(n:Nat)(f:List D->List Sl->Option (List Sl)):Prop where p:PGs X e (Hu B.G n f)
structure ZK(X:Cx)(e:Option Expr)(i:Option Int):Prop where p:PO X e (tO i)
structure ZV(X:Cx)(e:Expr)(i:Nat):Prop where p:PE X e (vH i)
abbrev Gz(X:Cx)(x:Str):Prop:=X.env.kindOf x=some .globalImplicit
abbrev Dz(x:Str):Prop:=(x==("__debug__" : Str))=false
abbrev Nz(x:Str):Prop:=(decide (x≠"__name__")&&!(x==("__debug__" : Str)))=true
abbrev Sz(X:Cx)(e:Expr)(es:List Expr):Prop:=az (e::es) X.env=(false,eval e X.env)::az es X.env
abbrev S1(X:Cx)(e:Expr):Prop:=az [e] X.env=[(false,eval e X.env)]
abbrev Lz(X:Cx)(pos:Pos)(es:List Expr):Prop:=(aZ pos (az es X.env)).any (·.1)=false
abbrev Wz(X:Cx)(e o:Expr)(pos:Pos):Prop:=cj e (some o) pos.line X.env=pure false
abbrev Az(X:Cx)(o:Expr)(m:Str):Prop:=dY o m X.env (eval o X.env)=eval o X.env
abbrev Ez(p pos:Pos):Prop:=(p.endLine==pos.line)=true
abbrev Iz(e:Expr):Prop:=(λo i=>subscripted e false o i)=λo i=>operate [o,i] (getItem o i)
abbrev Fz(X:Cx)(e:Expr):Prop:=(λx=>fB e X.env x)=λx=>pure x
class Cz(X:Cx)(B:outParam Bz)(k:outParam Nat):Prop where
 P:X.prog=B.P
 w:X.w=B.w
 K:X.K=B.G.K
 mg:X.mg=B.mg
 b:X.base=B.base
 c:X.calm=true
 r:qg k X.A
class Yb(B:Bz):Prop where y:Yw B.P B.w B.mg B.base B.G
class Df(B:Bz)(j:outParam Nat)(x:Str)(sp:Sp):Prop where p:∃ps,wQ B.P B.w B.G.K B.mg B.base j x ps sp
class Kf(B:Bz)(j:outParam Nat)(x:Str)(c:Nat)(g:List D->Option (List Str×List D))(dds:List D):Prop where
 p:∃ps,BQ B.G B.P B.w B.mg B.base j x c ps (dds.map vD) g
 f:dds.all qE=true
class Mf(B:Bz)(j:outParam Nat)(m:Str)(g:Nat->Option (List D->Option D)):Prop where p:∀c h,g c=some h->yt B.G B.P B.w B.mg B.base j m c h
class Ff(B:Bz)(ok:Nat->Bool)(f:Str):Prop where p:∀c,ok c=true->Cls B.G.K (B.G.ca c)/\tE B.G.K (B.G.ca c) f
class Af(B:Bz)(c:Nat)(xs:outParam (List Str)):Prop where p:CF B.G.K (B.G.ca c) xs
class Nb(B:Bz)(x:Str):Prop where p:B.mg x=none
class Co(B:Bz)(x:Str)(d:D):Prop where p:wu B.G B.mg x d
class Ic(B:Bz)(x:Str)(t:Ty->Option Bool):Prop where p:∃c,DT B.G c t/\B.mg x=some (.ref (B.G.ca c))
class Ij(B:Bz)(n:Nat):Prop where p:∀j k,j<n->k<n->B.G.ca j=B.G.ca k->j=k
class OpC(op:hE)(g:D->D->Option D):Prop where p:∀(X:Cx) (G:Bg),∃r,OpR X (ck op) r/\OpD G r g
instance in1:OpC .Mod qZ:=⟨λ_ _=>⟨_,M1,NJ⟩⟩
instance in2:OpC .FloorDiv vP:=⟨λ_ _=>⟨_,JL,NK⟩⟩
instance in3:OpC .Mult uE:=⟨λ_ _=>⟨_,M0,NI⟩⟩
instance in5:OpC .Pow HI:=⟨λ_ _=>⟨_,M3,NL⟩⟩
instance in6:OpC .Add qN:=⟨λ_ _=>⟨_,MZ,NH⟩⟩
instance in7:OpC .Add sS:=⟨λ_ _=>⟨_,Du,KI⟩⟩
class CmC(op:eB)(g:D->D->Option D):Prop where p:∀(X:Cx) (G:Bg),X.K=G.K->X.A.units+64<cLine->∃r,OpR X (aS op) r/\OpD G r g
instance in9:CmC .Eq (dEq false):=⟨λ_ _ h u=>⟨_,NR u h,Q3⟩⟩
instance in10:CmC .NotEq (dEq true):=⟨λ_ _ h u=>⟨_,NS u h,Q4⟩⟩
instance in11:CmC .In (dIn false):=⟨λ_ _ h _=>⟨_,NT h,L6⟩⟩
instance in12:CmC .NotIn (dIn true):=⟨λ_ _ h _=>⟨_,FZ h,L6⟩⟩
instance in13:CmC .Is vc:=⟨λ_ _ _ _=>⟨_,M5,NO⟩⟩
instance in14:CmC .IsNot rO:=⟨λ_ _ _ _=>⟨_,JM,KJ⟩⟩
instance in16:CmC .Lt KH:=⟨λ_ _ _ _=>⟨_,Qx,QZ⟩⟩
instance in17:CmC .LtE sG:=⟨λ_ _ _ _=>⟨_,Qy,Q0⟩⟩
instance in18:CmC .Gt CO:=⟨λ_ _ _ _=>⟨_,Qz,Q1⟩⟩
instance in19:CmC .GtE NG:=⟨λ_ _ _ _=>⟨_,QA,Q2⟩⟩
instance in20:CmC .LtE HJ:=⟨λ_ _ _ _=>⟨_,FP,NN⟩⟩
class B1(x:Str)(g:D->Option D):Prop where p:∀(X:Cx) (G:Bg),X.K=G.K->X.calm=true->∃(id:String) (r:List V->Hp->VK->Prop),qC X (.builtin id) r/\A1 G r g/\cO x=some (.builtin id)
instance in21:B1 "len" rG:=⟨λ_ _ h _=>⟨_,_,F1 h,NU,lQ⟩⟩
instance in22:B1 "all" qW:=⟨λ_ _ h c=>⟨_,_,F2 c h,NW,boot_all⟩⟩
instance in23:B1 "any" zY:=⟨λ_ _ h c=>⟨_,_,F8 c h,N1,boot_any⟩⟩
class KtC(x:Str)(T:outParam String):Prop where p:(∀(X:Cx) (G:Bg) y b,qF T y=some b->cv X.K (y.val G) (.type T)=some b)/\cO x=some (.type T)
instance in24:KtC "str" "str" := ⟨λ_ _=>KR,Pv.boot_str⟩
instance in25:KtC "int" "int" := ⟨λ_ _=>K9,mH⟩
instance in26:KtC "bool" "bool" := ⟨λ_ _=>Iy,Pv.boot_bool⟩
instance in27:KtC "list" "list" := ⟨λ_ _=>HY,mm⟩
instance in28:KtC "tuple" "tuple" := ⟨λ_ _=>kit_tuple,l7⟩
theorem Mb{G:Bg}{H:Hp}:∀{dds:List D},dds.all qE=true->oN G H dds (dds.map vD)
 |[],_=>pB
 |d::ds,h=>by rw[cq,aE]at h;exact pI (xG h.1 H) (Mb h.2)
theorem eqI{α:Sort u}{a b:α}(h:a=b):a=b:=h
def sees(X:Cx)(i:Nat)(x:Str):Bool:=decide (X.N[i]?=some x)&&(match X.env.scope.names.lookup x with|some .local=>true|some .cell=>true|some .free=>true|_=>false)&&!(x==("__debug__" : Str))&&!(x==("__classdict__" : Str))
def sets(X:Cx)(i:Nat)(x:Str):Bool:=decide X.N.Nodup&&decide (X.N[i]?=some x)&&(match X.env.scope.names.lookup x with|some .local=>true|some .cell=>X.fn x|_=>false)
variable{ft fu:FT}{id T:String}{r:List V->Hp->VK->Prop}{y:Int}
section
variable{X:Cx}{B:Bz}{k j i n c0:Nat}{x m:Str}{e e' o tg it:Expr}{es:List Expr}{p p2 p3 pos apos:Pos}{f f' f2:FE}{a:FA}{g:D->D->Option D}
theorem pvI(h:sees X i x=true):PE X (.Name x p) (vH i):=by
 unfold sees at h;simp only[aE,bc,bV]at h;obtain⟨⟨⟨h1,h2⟩,h3⟩,h4⟩:=h;refine pv i h1 ?_ h3 h4;unfold Vis;split at h2
 ·rename_i e;exact .inl e
 ·rename_i e;exact .inr (.inl e)
 ·rename_i e;exact .inr (.inr e)
 ·cases h2
theorem Rj(h:sees X i x=true):ZE X B (.Name x p) (cV i):=⟨DK (pvI h)⟩
theorem Oe(h:sees X i x=true):ZE X B (.Name x p) (cFz i):=⟨QX (pvI h)⟩
theorem Le(h:sees X i x=true):ZN X B (.Name x p) (BP i):=⟨KC (pvI h)⟩
theorem BY(h:sets X i x=true):X.N.Nodup/\X.N[i]?=some x/\L2.Loc X.env.scope x/\(X.fn x=true\/X.env.scope.names.lookup x=some .local):=by
 unfold sets at h;simp only[aE,bc]at h;obtain⟨⟨h1,h2⟩,h3⟩:=h;unfold L2.Loc;split at h3
 ·rename_i e;exact⟨h1,h2,.inl e,.inr e⟩
 ·rename_i e;exact⟨h1,h2,.inr e,.inl h3⟩
 ·cases h3
theorem pgI(h:sets X i x=true):PG X (.Name x p) (uA i):=by obtain⟨h1,h2,h3,h4⟩:=BY h;exact Ej h1 h2 h3 h4
theorem Of(h:sets X i x=true)(hi:Nat.blt i n=true):ZG X B (.Name x p) n (gN i):=⟨Hv n (pgI h) (Nat.blt_eq.mp hi)⟩
theorem stW{te:TE}(h:sets X i x=true)(he:PE X e te)(hs:Wz X e (.Name x p) pos):PS X (.Assign [.Name x p] e pos) (yf te (uA i)):=by obtain⟨h1,h2,h3,h4⟩:=BY h;exact MS h1 h2 h3 he hs h4
theorem Og(h:sets X i x=true)(he:ZE X B e f)(hs:Wz X e (.Name x p) pos):ZS X B (.Assign [.Name x p] e pos) (pd i f):=⟨EE (stW h he.p hs)⟩
theorem Oh(h:sets X i x=true)(he:ZN X B e a)(hs:Wz X e (.Name x p) pos):ZS X B (.Assign [.Name x p] e pos) (tV i a):=⟨Hz (stW h he.p hs)⟩
theorem Oi(h:sets X i x=true)(hs:Wz X (.Dict [] [] p2) (.Name x p) pos):ZS X B (.Assign [.Name x p] (.Dict [] [] p2) pos) (zX i):=⟨Ib (stW h Cu hs)⟩
theorem Oj{op:hE}[O:OpC op g](ha:ZE X B e f)(hb:ZE X B e' f'):ZE X B (.BinOp e op e' pos) (c2 g f f'):=by obtain⟨r,h1,h2⟩:=O.p X B.G;exact⟨QP h1 h2 ha.p hb.p⟩
theorem Ol [C:Cz X B k](ha:ZE X B e f)(hb:ZE X B e' f')(hs:Iz e'):ZE X B (.Subscript e e' pos) (c2 dIx f f'):=⟨QQ (Sj C.K) Q5 ha.p hb.p λo i=>congrFun (congrFun hs o) i⟩
theorem Om [C:Cz X B k](ha:ZE X B e f)(hb:ZE X B e' f')(hs:Iz e'):ZE X B (.Subscript e e' pos) (c2 qQ f f'):=⟨KY (G8 C.r) ha.p hb.p λo i=>congrFun (congrFun hs o) i⟩
section
variable{op op':eB}{g':D->D->Option D}
theorem On [O:CmC op g][C:Cz X B k](ha:ZE X B e f)(hb:ZE X B e' f')(hm:cD op e'=false):ZE X B (.Compare e [op] [e'] pos) (c2 g f f'):=by obtain⟨r,h1,h2⟩:=O.p X B.G C.K C.r.units;exact⟨Nv h1 h2 ha.p hb.p hm⟩
theorem Oq [O:CmC op g][C:Cz X B k](ha:ZE X B e f)(hb:ZE X B e' f')(hm:cD op e'=false):ZT X B (.Compare e [op] [e'] pos) (cT (c2 g f f')):=by obtain⟨r,h1,h2⟩:=O.p X B.G C.K C.r.units;exact⟨Kc h1 h2 ha.p hb.p hm⟩
theorem Os [O:CmC op g][O':CmC op' g'][C:Cz X B k](ha:ZE X B e f)(hb:ZE X B e' f')(hc:ZE X B o f2)(hm:lastMarks [op,op'] [e',o]=false):ZE X B (.Compare e [op,op'] [e',o] pos) (qO g g' f f' f2):=by obtain⟨r,h1,h2⟩:=O.p X B.G C.K C.r.units;obtain⟨r',h3,h4⟩:=O'.p X B.G C.K C.r.units;exact⟨HS h1 h3 h2 h4 ha.p hb.p hc.p hm⟩
theorem Ot [O:CmC op g][O':CmC op' g'][C:Cz X B k](ha:ZE X B e f)(hb:ZE X B e' f')(hc:ZE X B o f2)(hm:lastMarks [op,op'] [e',o]=false):ZT X B (.Compare e [op,op'] [e',o] pos) (cT (qO g g' f f' f2)):=by obtain⟨r,h1,h2⟩:=O.p X B.G C.K C.r.units;obtain⟨r',h3,h4⟩:=O'.p X B.G C.K C.r.units;exact⟨F5 h1 h3 h2 h4 ha.p hb.p hc.p hm⟩
end
theorem Ou(h:ZE X B e f)(he:(λwhole=>isTrue e X.env whole)=λwhole=>(do let v<-whole;standAt e.pos;holding [v] (truthy v))):ZT X B e (cT f):=⟨Ke h.p λw=>congrFun he w⟩
theorem Ov(ha:ZT X B e ft)(hb:ZW X B (.BoolOp .Or (e'::es) pos) fu):ZT X B (.BoolOp .Or (e::e'::es) pos) (qK ft fu):=⟨PW.pt (Hm ha.p hb.p)⟩
theorem Ow(ha:ZT X B e ft)(hb:ZW X B (.BoolOp .And (e'::es) pos) fu):ZT X B (.BoolOp .And (e::e'::es) pos) (rb ft fu):=⟨PW.pt (Ki ha.p hb.p)⟩
theorem Ox{d:D}[C:Cz X B k][Q:Co B x d](hg:Gz X x)(hd:Dz x):ZE X B (.Name x pos) (cC d):=⟨HW (C.mg▸Q.p) hg hd⟩
theorem Oy{ok:Nat->Bool}[C:Cz X B k][Q:Ff B ok m](he:ZE X B e f)(hb:Az X e m):ZE X B (.Attribute e m pos) (c1 (oH ok m) f):=⟨HB he.p (C.K▸Q.p) hb⟩
section
variable(hg:Gz X x)(hd:Dz x)(hs:Sz X e es)(hl:Lz X pos es)
include hg hd
theorem dz{sp:Sp}[C:Cz X B k][Q:Df B j x sp]:∃ps,wQ X.prog X.w X.K X.mg X.base j x ps sp:=by rw[C.P,C.w,C.K,C.mg,C.b];exact Q.p
theorem Oz{g:List D->Option (List D)}[C:Cz X B k][Q:Df B j x (spN B.G g)](hj:cy j k=true):ZN X B (.Call (.Name x p) [] [] pos) (qe g pC):=by obtain⟨ps,q⟩:=dz hg hd (X:=X) (Q:=Q);exact⟨HU q (C.r.mono (cQ.mp hj)) hg hd⟩
include hs hl
theorem OA{g:List D->Option D}[C:Cz X B k][Q:Df B j x (spF B.G g)](ha:ZA X B (e::es) a)(hj:cy j k=true):ZE X B (.Call (.Name x p) (e::es) [] pos) (oP g a):=by obtain⟨ps,q⟩:=dz hg hd (X:=X) (Q:=Q);exact⟨NY q (C.r.mono (cQ.mp hj)) ha.p hg hd hs hl⟩
theorem OB{g:List D->Option (List D)}[C:Cz X B k][Q:Df B j x (spN B.G g)](ha:ZA X B (e::es) a)(hj:cy j k=true):ZN X B (.Call (.Name x p) (e::es) [] pos) (qe g a):=by obtain⟨ps,q⟩:=dz hg hd (X:=X) (Q:=Q);exact⟨KO q (C.r.mono (cQ.mp hj)) ha.p hg hd hs hl⟩
theorem OC{g:List D->List D->Option (D×List D)}[C:Cz X B k][Q:Df B j x (spM B.G g)](hv:ZV X e i)(ha:ZA X B es a)(hj:cy j k=true):ZE X B (.Call (.Name x p) (e::es) [] pos) (pJ g i a):=by obtain⟨ps,q⟩:=dz hg hd (X:=X) (Q:=Q);exact⟨KP q (C.r.mono (cQ.mp hj)) hv.p ha.p hg hd hs hl⟩
theorem OE{g:List D->Option (List Str×List D)}{dds:List D}[C:Cz X B k][Q:Kf B j x c0 g dds](ha:ZA X B (e::es) a)(hj:cy (j+1) k=true):ZE X B (.Call (.Name x p) (e::es) [] pos) (pE c0 (λds=>g (ds++dds)) a):=by obtain⟨ps,q⟩:=Q.p;exact⟨KQ (by rw[C.P,C.w,C.mg,C.b];exact q) (λH=>Mb Q.f) (C.r.mono (cQ.mp hj)) ha.p C.K hg hd hs hl⟩
end
theorem mz{g:Nat->Option (List D->Option D)}[C:Cz X B k][Q:Mf B j m g]:∀c h,g c=some h->yt B.G X.prog X.w X.mg X.base j m c h:=by rw[C.P,C.w,C.mg,C.b];exact Q.p
theorem OF{g:Nat->Option (List D->Option D)}{pl:Sem Bool}[C:Cz X B k][Q:Mf B j m g](ho:ZE X B o f)(hj:cy j k=true)
  (ht:eval (.Call (.Attribute o m apos) [] [] pos) X.env=(do
   let ov<-eval o X.env
   standAt apos.atName
   let (f,first)<-holding [ov] (getMethod ov m pl)
   callWith pos f first (aZ pos (az [] X.env)) (backToKw pos (dj [] X.env)))):ZE X B (.Call (.Attribute o m apos) [] [] pos) (rE g m f pC):=⟨DP mz (C.r.mono (cQ.mp hj)) ho.p C.K ht⟩
theorem OG{g:Nat->Option (List D->Option D)}{pl:Sem Bool}[C:Cz X B k][Q:Mf B j m g](ho:ZE X B o f)(ha:ZA X B (e::es) a)(hj:cy j k=true)(hs:Sz X e es)(hl:Lz X pos es)
  (ht:eval (.Call (.Attribute o m apos) (e::es) [] pos) X.env=(do
   let ov<-eval o X.env
   standAt apos.atName
   let (f,first)<-holding [ov] (getMethod ov m pl)
   callWith pos f first (aZ pos (az (e::es) X.env)) (backToKw pos (dj [] X.env)))):ZE X B (.Call (.Attribute o m apos) (e::es) [] pos) (rE g m f a):=⟨F6 mz (C.r.mono (cQ.mp hj)) ho.p ha.p C.K hs hl ht⟩
section
variable(hg:Gz X x)(hd:Nz x)(hs:S1 X e)
include hg hd hs
theorem cbI{t:TA}[C:Cz X B k][N:Nb B x](hc:qC X (.builtin id) r)(hv:cO x=some (.builtin id))(ha:PA X [e] t):PE X (.Call (.Name x p) [e] [] pos) (tCB r t):=by simp only[aE,bc,bV]at hd;exact zw hc hg (C.mg▸N.p) hv ha hd.1 hd.2 hs rfl
theorem ctI{t:TA}[C:Cz X B k][N:Nb B x](hc:qC X (.type T) r)(hv:cO x=some (.type T))(ha:PA X [e] t):PE X (.Call (.Name x p) [e] [] pos) (tCB r t):=by simp only[aE,bc,bV]at hd;exact FC hc hg (C.mg▸N.p) hv ha hd.1 hd.2 hs rfl
theorem OH{g:D->Option D}[Q:B1 x g][C:Cz X B k][N:Nb B x](ha:ZE X B e f):ZE X B (.Call (.Name x p) [e] [] pos) (c1 g f):=by obtain⟨id,r,h1,h2,h3⟩:=Q.p X B.G C.K C.c;exact⟨L7 h2 (cbI hg hd hs h1 h3 (sC ha.p tU hs))⟩
end
section
variable(hs:S1 X e)
include hs
theorem OJ [C:Cz X B k][N:Nb B "list"](hg:Gz X "list")(ha:ZE X B e f):ZN X B (.Call (.Name "list" p) [e] [] pos) (uF f):=⟨HP (ctI hg (by decide) hs (DO C.K) mm (sC ha.p tU hs))⟩
theorem OK [C:Cz X B k][N:Nb B "tuple"](hg:Gz X "tuple")(ha:ZE X B e f):ZE X B (.Call (.Name "tuple" p) [e] [] pos) (sH f):=⟨HQ (ctI hg (by decide) hs (F4 C.K) l7 (sC ha.p tU hs))⟩
theorem OL [C:Cz X B k][N:Nb B "range"](hg:Gz X "range")(ha:ZE X B e f):ZI X B tg (.Call (.Name "range" p) [e] [] pos) (iR1 f):=⟨DM (Ft hg (C.mg▸N.p) (sC ha.p tU hs) hs)⟩
end
section
variable(hi:Gz X "isinstance")(hg:Gz X x)(hs:az [e,.Name x p2] X.env=[(false,eval e X.env),(false,eval (.Name x p2) X.env)])(hs':S1 X (.Name x p2))
include hi hg hs hs'
theorem OM [Q:KtC x T][C:Cz X B k][N:Nb B "isinstance"][N':Nb B x](ha:ZE X B e f)(hd:Nz x):ZE X B (.Call (.Name "isinstance" p) [e,.Name x p2] [] pos) (c1 (rP (qF T)) f):=by
 simp only[aE,bc,bV]at hd;refine⟨EK (c:=.b T) (zw (A2 (.b T) (Q.p.1 X B.G) HX C.K) hi (C.mg▸N.p) lE (rH ha.p (rH (JF (v:=.ty T) hg (C.mg▸N'.p) Q.p.2 rfl hd.1 hd.2) uS ?_) ?_) (by decide) (by decide) ?_ ?_)⟩
 ·exact hs'
 ·rw[hs,hs']
 ·rw[hs,hs']
 ·rw[hs'];rfl
theorem ON{t:Ty->Option Bool}[Q:Ic B x t][C:Cz X B k][N:Nb B "isinstance"](ha:ZE X B e f)(hd:Dz x):ZE X B (.Call (.Name "isinstance" p) [e,.Name x p2] [] pos) (c1 (rP t) f):=by
 obtain⟨c,q1,q2⟩:=Q.p;refine⟨EK (c:=.c c) (zw (DU q1 C.K) hi (C.mg▸N.p) lE (rH ha.p (rH (Eg (v:=.ref (B.G.ca c)) hg (C.mg▸q2) rfl hd) uS ?_) ?_) (by decide) (by decide) ?_ ?_)⟩
 ·exact hs'
 ·rw[hs,hs']
 ·rw[hs,hs']
 ·rw[hs'];rfl
end
section
variable(hb:Az X o m)(hl:Ez apos pos)(hs:S1 X e)
include hb hl hs
theorem bmI{r:V->List V->Hp->VK->Prop}{to:TE}{t:TA}[C:Cz X B k](pa:jw T)(slot:Slot T m id)(hty:typeOf (.builtin id)=pure (.type "method_descriptor"))(hm:MtR X id r)(ho:PE X o to)(ha:PA X [e] t):PE X (.Call (.Attribute o m apos) [e] [] pos) (tBM B.G.K T r to t):=
 Hh B.G.K pa slot hty hm ho ha hb (by rw[hs];rfl) hl hs rfl C.K
end
section
variable(h:sees X i x=true)(hb:Az X (.Name x p) m)(hl:Ez apos pos)(hs:S1 X e)
include h hb hl hs
theorem OO [C:Cz X B k](hm:m="append")(ha:ZE X B e f):ZE X B (.Call (.Attribute (.Name x p) m apos) [e] [] pos) (vI i f):=by subst hm;exact⟨FX (bmI hb hl hs fE iG kD yi (pvI h) (sC ha.p tU hs))⟩
theorem OP [C:Cz X B k](hm:m="extend")(ha:ZE X B e f):ZE X B (.Call (.Attribute (.Name x p) m apos) [e] [] pos) (vS i f):=by subst hm;exact⟨DW (bmI hb hl hs fE gm kE (C.K▸DV) (pvI h) (rH ha.p uS hs))⟩
end
theorem OQ{xs:List Str}[C:Cz X B k][Q:Af B c0 xs](hx:xs.contains m=true)(h:sees X i x=true)(hv:ZE X B e f)(hs:Wz X e (.Attribute (.Name x p) m apos) pos):ZS X B (.Assign [.Attribute (.Name x p) m apos] e pos) (pG c0 i m f):=⟨KA (M7 (pvI h) hv.p hs) (by obtain⟨i,_,e⟩:=iA (j2.mp hx);exact C.K▸Q.p.at i (br.mpr ⟨_,e⟩))⟩
theorem OR [C:Cz X B k](h:sees X i x=true)(hk:ZE X B e' f')(hv:ZE X B e f)(hs:Wz X e (.Subscript (.Name x p) e' apos) pos):ZS X B (.Assign [.Subscript (.Name x p) e' apos] e pos) (rQ i f' f):=⟨Ie (J1 (G8 C.r) (pvI h) hk.p hv.p hs)⟩
theorem OS{n:Nat}[Q:Ij B n](h:ZE X B e f):ZE X B e (wU n f):=⟨K7 Q.p h.p⟩
theorem OT{lo hi:Option Expr}{fl fh:FO}[C:Cz X B k](he:ZE X B e f)(hl:ZO X B lo fl)(hh:ZO X B hi fh):ZN X B (.Subscript e (.Slice lo hi none p) pos) (xa f fl fh):=⟨DS (zy (Sk C.K) he.p hl.p hh.p)⟩
theorem OU:ZK X (some (.Constant (.int y) j pos)) (some y):=⟨HR⟩
theorem OV:ZK X none none:=⟨Q6⟩
theorem OW [C:Cz X B k](h:ZE X B e f):ZI X B tg e (iL f):=⟨CM (CA B.G.K h.p C.K)⟩
theorem OX [C:Cz X B k](h:ZE X B e f):ZI X B tg e (iT f):=⟨KF (J8 B.G.K h.p C.K)⟩
theorem OY(h:ZE X B e f):ZI X B tg e (iD f):=⟨Io (K5 h.p)⟩
theorem OZ(h:ZE X B e f):ZI X B tg e (iS f):=⟨KZ (Nm h.p)⟩
section
variable{gg:FG}{gs:List D->List Sl->Option (List Sl)}
theorem Lf:ZH X B [] n Hw:=⟨Ko JH⟩
theorem Lg(h1:ZG X B e n gg)(h2:ZH X B es n gs)(hs:(cg (e::es) X.env).map (·.2)=assign e X.env::(cg es X.env).map (·.2)):ZH X B (e::es) n (w5 gg gs):=⟨Hy (GB h1.p h2.p hs)⟩
theorem Lh{n' k':Nat}[C:Cz X B k](h:ZH X B es n gs)(hn:(cg es X.env).length=n')(ht:(cg es X.env).findIdx? (·.1)=none):ZG X B (.Tuple es k' pos) n (gT gs n'):=⟨Kp (J9 B.G.K C.c h.p hn ht C.K)⟩
end
def tgN:Expr->List Str
 |.Name x _=>[x]
 |.Tuple es _ _=>es.filterMap λe=>match e with|.Name x _=>some x|_=>none
 |_=>[]
def cpN(X:Cx)(tg:Expr)(cap:List Nat):List Str:=tgN tg++cap.map λj=>X.N.getD j ""
instance inCz [C:Cz X B k]{N':List Str}{sc:bZ}{cl:List (Str×Addr)}{A:Addr}{fp:List Addr}{s:ae}{H:Hp}:Cz (qd X N' sc cl A fp s H) B k:=⟨C.P,C.w,C.K,C.mg,C.b,C.c,C.r⟩
def O0(X:Cx)(N':List Str)(sc:bZ)(n:Nat)(cap:List Nat):Bool:=decide cap.Nodup&&decide (sc.kind=.function)&&(sc.names.all λy=>y.2 != .cell)&&(sc.names.all λy=>y.2 != .local||sc.names.lookup y.1==some .local)&&(sc.names.all λy=>y.2 != .free||(X.env.kindOf y.1==some .cell||X.env.kindOf y.1==some .free))&&decide (N'.length=n+cap.length)&&decide ((N'.drop n).map some=cap.map λj=>X.N[j]?)&&((N'.drop n).all λx=>sc.names.lookup x==some .free)
section
variable{sc:bZ}{cap:List Nat}{ifs:List Expr}{gg:FG}{ft:FT}{s:FA}
 (h0:O0 X (cpN X tg cap) sc n cap=true) (hs:Fz X it) (hi:ZI X B tg it s)
 (h1:∀(cl:List (Str×Addr)) (A:Addr) (fp:List Addr) (s:ae) (H:Hp),ZG (qd X (cpN X tg cap) sc cl A fp s H) B tg n gg)
 (h2:∀(cl:List (Str×Addr)) (A:Addr) (fp:List Addr) (s:ae) (H:Hp),ZF (qd X (cpN X tg cap) sc cl A fp s H) B ifs ft)
 (h3:∀(cl:List (Str×Addr)) (A:Addr) (fp:List Addr) (s:ae) (H:Hp),ZE (qd X (cpN X tg cap) sc cl A fp s H) B e f)
include h0 hs hi h1 h2 h3
theorem O1 [C:Cz X B k]:ZN X B (.ListComp e [⟨tg,it,ifs,0⟩] sc pos) (oT n cap s gg ft f):=by unfold O0 at h0;simp only[aE,bc]at h0;obtain⟨⟨⟨⟨⟨⟨⟨a1,a2⟩,a3⟩,a4⟩,a5⟩,a6⟩,a7⟩,a8⟩:=h0;exact⟨HG a1 (J7 (N':=cpN X tg cap) C.c hi.p (λcl A fp s H=>⟨(h1 cl A fp s H).p,(h2 cl A fp s H).p,(h3 cl A fp s H).p⟩) a2 a3 a4 a5 a6 a7 a8 λx=>congrFun hs x)⟩
theorem cpW [C:Cz X B k](h:sets X i x=true)(hw:cj (.ListComp e [⟨tg,it,ifs,0⟩] sc pos) (some (.Name x p)) apos.line X.env=pure true):PS X (.Assign [.Name x p] (.ListComp e [⟨tg,it,ifs,0⟩] sc pos) apos) (yf (zH (tFI B.G s) (tFG B.G n gg) (tFT B.G ft) (tF B.G f) n cap) (uA i))/\cap.Nodup:=by unfold O0 at h0;simp only[aE,bc]at h0;obtain⟨⟨⟨⟨⟨⟨⟨a1,a2⟩,a3⟩,a4⟩,a5⟩,a6⟩,a7⟩,a8⟩:=h0;obtain⟨b1,b2,b3,b4⟩:=BY h;exact⟨KU (N':=cpN X tg cap) C.c b1 b2 b3 hi.p (λcl A fp s H=>⟨(h1 cl A fp s H).p,(h2 cl A fp s H).p,(h3 cl A fp s H).p⟩) a2 a3 a4 a5 a6 a7 a8 (λx=>congrFun hs x) hw b4,a1⟩
theorem O2 [C:Cz X B k](h:sets X i x=true)(hw:cj (.ListComp e [⟨tg,it,ifs,0⟩] sc pos) (some (.Name x p)) apos.line X.env=pure true):ZS X B (.Assign [.Name x p] (.ListComp e [⟨tg,it,ifs,0⟩] sc pos) apos) (pd i (cL (oT n cap s gg ft f))):=by have z:=cpW (k:=k) h0 hs hi h1 h2 h3 h hw;exact⟨HZ z.2 z.1⟩
end
section
variable{st:Stmt}{sts:List Stmt}{fs fs':FS}{ft:FT}{a':FA}{z1:Nat}
theorem Rk(ha:ZE X B e f)(hr:ZA X B es a)(hs:Sz X e es):ZA X B (e::es) (aCons f a):=⟨sC ha.p hr.p hs⟩
theorem Rl:ZA X B [] pC:=⟨tU⟩
theorem O3(h:sees X i x=true):ZV X (.Name x p) i:=⟨pvI h⟩
theorem O4(h:ZN X B e a):ZE X B e (cL a):=⟨NC h.p⟩
theorem Rm{y:Str}:ZE X B (.Constant (.str y) j pos) (cC (.str y)):=⟨Nt⟩
theorem Ro:ZE X B (.Constant (.int y) j pos) (cC (.int y)):=⟨Nr⟩
theorem Rp{y:Bool}:ZE X B (.Constant (.bool y) j pos) (cC (.bl y)):=⟨QO⟩
theorem Rq:ZE X B (.Constant .none j pos) (cC .non):=⟨Nu⟩
theorem IH(h1:ZS X B st fs)(h2:ZB X B sts fs'):ZB X B (st::sts) (oK fs fs'):=⟨Hr h1.p h2.p⟩
theorem Rr(h1:ZS X B st fs):ZB X B [st] fs:=⟨Km h1.p⟩
theorem Rt:ZB X B [] pf:=⟨Kl⟩
theorem O5(h:ZE X B e f):ZS X B (.Return (some e) pos) (px f):=⟨Kn h.p⟩
theorem O6(h:ZN X B e a):ZS X B (.Return (some e) pos) (qM a):=⟨Hs h.p⟩
theorem O7(h:ZE X B e f)(hs:cj e none pos.line X.env=pure false):ZS X B (.Expr e pos) (qD f):=⟨Ht h.p hs⟩
theorem O8(h:ZT X B e ft)(h1:ZB X B sts fs){sts':List Stmt}(h2:ZB X B sts' fs'):ZS X B (.If e sts sts' pos) (sIf ft fs fs'):=⟨ND h.p h1.p h2.p⟩
theorem O9:ZE X B e BW:=⟨Ig⟩
theorem Pa(h:ZA X B es a):ZN X B (.List es pos) (oJ a):=⟨Kj h.p⟩
theorem Pb(h:ZA X B es a):ZE X B (.Tuple es z1 pos) (sU a):=⟨NB h.p⟩
theorem Pc(ha:ZE X B e f)(hb:ZE X B e' f'):ZN X B (.BinOp e .Add e' pos) (qa f f'):=⟨KL ha.p hb.p⟩
theorem Pd [C:Cz X B k](ha:ZE X B e f)(hb:ZE X B e' f'):ZE X B (.BinOp e .Add e' pos) (vR f f'):=⟨K1 ha.p hb.p C.K⟩
theorem Pe(ha:ZE X B e f)(hb:ZE X B (.BoolOp .And (e'::es) pos) f'):ZE X B (.BoolOp .And (e::e'::es) pos) (qu f f'):=⟨Ny ha.p hb.p⟩
theorem Pf(ha:ZE X B e f)(hb:ZE X B (.BoolOp .Or (e'::es) pos) f'):ZE X B (.BoolOp .Or (e::e'::es) pos) (cOr f f'):=⟨QS ha.p hb.p⟩
theorem Pg{op}(ha:ZE X B e f):ZE X B (.BoolOp op [e] pos) f:=⟨Nx ha.p⟩
theorem Ph(ha:ZE X B e f):ZE X B (.UnaryOp .Not e pos) (BN f):=⟨NA ha.p⟩
theorem Pi(ha:ZT X B e ft):ZT X B (.UnaryOp .Not e pos) (ra ft):=⟨Kg ha.p⟩
theorem Pj(h:ZT X B o ft)(ha:ZE X B e f)(hb:ZE X B e' f'):ZE X B (.IfExp o e e' pos) (cIf ft f f'):=⟨QT h.p ha.p hb.p⟩
theorem Ru(h:ZT X B e ft):ZF X B [e] ft:=⟨J4 h.p⟩
theorem Rv:ZF X B [] pF:=⟨HH⟩
theorem Pk(h:ZE X B e f):ZE X B e (xI f):=⟨NX h.p⟩
theorem Pl(h:ZT X B e ft):ZT X B e (vz ft):=⟨KM h.p⟩
theorem Pm(h:ZE X B e f):ZO X B (some e) (oAt f):=⟨N3 h.p⟩
theorem Pn:ZO X B none oNo:=⟨N2⟩
theorem Po(ha:ZT X B e ft)(hb:ZW X B (.BoolOp .Or (e'::es) pos) fu):ZW X B (.BoolOp .Or (e::e'::es) pos) (qK ft fu):=⟨Hm ha.p hb.p⟩
theorem Pp(h:ZT X B e ft):ZW X B (.BoolOp .Or [e] pos) ft:=⟨Kh h.p⟩
theorem Pq(h:ZT X B e ft):ZW X B (.BoolOp .And [e] pos) ft:=⟨Hl h.p⟩
end
theorem Pr{body:List Stmt}{s:FA}{gg:FG}{b:FS}[C:Cz X B k](hp:PassesOwn (model X.prog X.w) X.A X.env X.xe)(hn:X.N.length=n)(hi:ZI X B tg it s)(hg:ZG X B tg n gg)(hb:ZB X B body b)(hs:Fz X it):ZS X B (.For tg it body [] pos) (q9 s gg b):=⟨KG (GH hp C.c hi.p hg.p hb.p λx=>congrFun hs x)⟩
end
end L4
namespace L4
open PySem PySem.Spec PyProof.Rows L2 L3
open PySem.W (fnOf)
def nmO(st:Stmt):List Str:=(o4 st).names.filterMap λy=>match y.2 with|.local=>some y.1|.cell=>some y.1|_=>none
def psO(st:Stmt):List Str:=(rK st).args.map (·.arg)
def okO(N ps:List Str)(st:Stmt)(np n:Nat):Bool:=decide ((o4 st).kind=.function)&&(o4 st).isCoroutine==false&&(o4 st).isGenerator==false&&decide N.Nodup&&decide (N.take ps.length=ps)&&(ps.all λx=>match (o4 st).names.lookup x with|some .local=>true|some .cell=>true|_=>false)&&((o4 st).names.all λy=>y.2 != .free)&&decide (ps.length=np)&&decide (N.length=n)
theorem okk{N ps:List Str}{st:Stmt}{np n:Nat}(h:okO N ps st np n=true):qt N ps (o4 st)/\ps.length=np/\N.length=n:=by
 unfold okO at h;simp only[aE,bc,beq_iff_eq]at h;obtain⟨⟨⟨⟨⟨⟨⟨⟨h1,h2⟩,h3⟩,h4⟩,h5⟩,h6⟩,h7⟩,h8⟩,h9⟩:=h;refine⟨⟨h1,h2,h3,h4,h5,λx hx=>?_,λy hy e=>?_⟩,h8,h9⟩
 ·have z:=aD.mp h6 x hx;split at z
  ·rename_i e;exact .inl e
  ·rename_i e;exact .inr e
  ·cases z
 ·have z:=aD.mp h7 y hy;rw[e]at z;exact ao z (by decide)
section
variable{B:Bz}[Y:Yb B]{x m qual:Str}{st s0:Stmt}{l:List Stmt}{k c np n:Nat}{b:FS}{p:Str}{ps xs:List Str}{N:List Str}
abbrev Bdz(B:Bz)(N:List Str)(qual:Str)(st:Stmt)(l:List Stmt)(k:Nat)(b:FS):Prop:=∀{f:Addr} {cdv:aa} {A:aw} {outer:List Env} {s:ae} {H:Hp} {E:XK} [Cz (vQ B.P B.w B.G.K B.mg B.base N qual st f cdv A outer s H E) B k],ZB (vQ B.P B.w B.G.K B.mg B.base N qual st f cdv A outer s H E) B l b
omit Y in
theorem Bdz.ok(h:Bdz B N qual st l k b)(hl:pA st=l):Bdy B.P B.w B.G.K B.mg B.base N qual st k (tFS B.G b):=λf cdv A outer s H E hr=>by subst hl;exact(@h f cdv A outer s H E ⟨rfl,rfl,rfl,rfl,rfl,rfl,hr⟩).p
theorem gF4{g:List D->Option D}(hg:g=fnD np n b)(q:GD B.G.K x st)(hl:pA st=s0::l)(body:Bdz B (nmO st) x st (s0::l) k b)(S:okO (nmO st) (psO st) st np n=true:=by kernel_rfl)(bd:Bds x x st (psO st):=by (repeat intro _);rfl):Df B (k+1) x (spF B.G g):=
 ⟨_,gF hg Y.y q (okk S).1 (body.ok hl) (okk S).2.1 (okk S).2.2 bd⟩
theorem gF5(N:List Str){g:List D->Option D}(hg:g=fnD np n b)(q:GD B.G.K x st)(hl:pA st=s0::l)(body:Bdz B N x st (s0::l) k b)(S:okO N (psO st) st np n=true:=by kernel_rfl)(bd:Bds x x st (psO st):=by (repeat intro _);rfl):Df B (k+1) x (spF B.G g):=
 ⟨_,gF hg Y.y q (okk S).1 (body.ok hl) (okk S).2.1 (okk S).2.2 bd⟩
theorem gN4{g:List D->Option (List D)}(hg:g=fnN np n b)(q:GD B.G.K x st)(hl:pA st=s0::l)(body:Bdz B (nmO st) x st (s0::l) k b)(S:okO (nmO st) (psO st) st np n=true:=by kernel_rfl)(bd:Bds x x st (psO st):=by (repeat intro _);rfl):Df B (k+1) x (spN B.G g):=
 ⟨_,gN' hg Y.y q (okk S).1 (body.ok hl) (okk S).2.1 (okk S).2.2 bd⟩
theorem gM4{g:List D->List D->Option (D×List D)}(hg:g=fnM np n b)(q:GD B.G.K x st)(hl:pA st=s0::l)(hp:psO st=p::ps)(body:Bdz B (nmO st) x st (s0::l) k b)(S:okO (nmO st) (p::ps) st (np+1) n=true:=by kernel_rfl)(bd:Bds x x st (p::ps):=by (repeat intro _);rfl):Df B (k+1) x (spM B.G g):=
 ⟨_,gM hg Y.y q (okk S).1 (body.ok hl) (fQ (okk S).2.1) (okk S).2.2 bd⟩
theorem hF4{g:List D->Option D}(C:CF B.G.K (B.G.ca c) xs)(hg:g=fnD np n b)(q:GM B.G.K (B.G.ca c) m qual st)(hl:pA st=s0::l)(body:Bdz B (nmO st) qual st (s0::l) k b)(S:okO (nmO st) (psO st) st np n=true:=by kernel_rfl)(bd:Bds m qual st (psO st):=by (repeat intro _);rfl):yt B.G B.P B.w B.mg B.base (k+1) m c g:=by obtain⟨f,fd,a,i,F⟩:=q;exact⟨f,fd,_,C.ci.cl,⟨a,i,F.kp⟩,bd.ok F,HV hg (okk S).2.1 (okk S).2.2 F (okk S).1 (body.ok hl f)⟩
theorem gI4{g:List D->Option (List Str×List D)}(C:CF B.G.K (B.G.ca c) xs)(a:eV B.G.K aK x=some (some (.ref (B.G.ca c))))(hg:g=fnI c np n b)(q:GM B.G.K (B.G.ca c) "__init__" qual st)(hl:pA st=s0::l)(hp:psO st=p::ps)(body:Bdz B (nmO st) qual st (s0::l) k b)(S:okO (nmO st) (p::ps) st (np+1) n=true:=by kernel_rfl)(bd:Bds "__init__" qual st (p::ps):=by (repeat intro _);rfl):Kf B (k+1) x c g []:=
 ⟨⟨_,gI hg Y.y C a q (okk S).1 (body.ok hl) (fQ (okk S).2.1) (okk S).2.2 bd⟩,rfl⟩
theorem gJ4{g:List D->Option (List Str×List D)}{dds:List D}(C:CF B.G.K (B.G.ca c) xs)(a:eV B.G.K aK x=some (some (.ref (B.G.ca c))))(hg:g=fnI c np n b)(q:GJ B.G.K (B.G.ca c) qual st (dds.map vD))(hl:pA st=s0::l)(hp:psO st=p::ps)(body:Bdz B (nmO st) qual st (s0::l) k b)(j:Nat)(S:okO (nmO st) (p::ps) st (np+1) n=true:=by kernel_rfl)(hf:dds.all qE=true:=by rfl)
  (bd:D3 (dds.map vD).length λdl=>D3 ((p::ps).length - ((dds.map vD).drop j).length) λus=>∀(T:Addr) (kV doc pm:aa) (an:Option Addr) (cdv ct:aa),∃k,bindArgs (fnOf "__init__" qual (rK st) (pA st) (o4 st) (.ref T) kV doc pm an cdv ct) ⟨us,[]⟩=seqItems? (.ref T)>>=k/\k (some dl.toArray)=pure ((p::ps).zip (us++dl.drop j)):=by (repeat intro _);exact⟨_,rfl,rfl⟩):Kf B (k+1) x c g (dds.drop j):=
 ⟨⟨_,by rw[List.map_drop];exact gJ hg Y.y C a q (okk S).1 (body.ok hl) j (fQ (okk S).2.1) (okk S).2.2 bd⟩,by
  rw[aD]at hf ⊢;exact λd h=>hf d (j8 h)⟩
theorem II(n:Nat)(ca:Nat->Addr):∀k,k<n->((aT n).map ca).getD k 0=ca k:=λk h=>by rw[eC,aY,iy h];rfl
theorem Sn{n:Nat}{ca:Nat->Addr}(h:decide ((aT n).map ca).Nodup=true):∀j k,j<n->k<n->ca j=ca k->j=k:=λj k hj hk e=>by rw[<-II n ca j hj,<- II n ca k hk]at e;exact Ob (bC h) (by simpa using hj) (by simpa using hk) e
def D4:Nat->(Nat->Prop)->Prop
 |0,_=>True
 |n+1,Q=>Q 0/\D4 n λk=>Q (k+1)
theorem D4.at:∀{n:Nat} {Q:Nat->Prop},D4 n Q->∀k,k<n->Q k
 |_+1,_,h,0,_=>h.1
 |_+1,_,h,k+1,hk=>D4.at (Q:=λk=>_) h.2 k (Nat.lt_of_succ_lt_succ hk)
end
section
variable{X:Cx}{B:Bz}{k j i n:Nat}{x y:Str}{e e' tg:Expr}{es:List Expr}{p p2 p3 pos apos:Pos}{f f':FE}{a:FA}{st:Stmt}{sts:List Stmt}{fs fs':FS}{ft:FT}
theorem Pt [C:Cz X B k](ha:ZE X B e f)(hb:ZE X B e' f')(hm:cD .NotIn e'=false):ZT X B (.Compare e [.NotIn] [e'] pos) (cT (c2 (zc true) f f')):=⟨IA (G8 C.r) ha.p hb.p hm⟩
theorem Pu [C:Cz X B k][N:Nb B "int"](hg:Gz X "int")(hs:S1 X e)(ha:ZE X B e f):ZE X B (.Call (.Name "int" p) [e] [] pos) (c1 DN f):=⟨L7 NV (ctI hg (by decide) hs Fv mH (sC ha.p tU hs))⟩
theorem Pw(ha:ZE X B e f):ZE X B (.UnaryOp .USub e pos) (c1 wV f):=⟨Od ha.p⟩
end
end L4
namespace L4
open PySem PySem.Spec PyProof.Rows L2 L3
def Li(f:FE)(lo hi:Option Int):FE:=λρ=>match f ρ with
 |some (.tup ds,ρ1)=>if HT.sIx ds.length 0 lo=0/\HT.sIx ds.length ds.length hi=ds.length then none else some (.tup (cutD ds lo hi),ρ1)
 |_=>none
section
variable{X:Cx}{G:Bg}
theorem Gf{e:Expr}{f:FE}{lo hi:Option Int}(h:PE X e (tSl (Na G.K) (tF G f) (tO lo) (tO hi))):PE X e (tF G (Li f lo hi)):=PE.weak h λσ H Q hh=>by
 obtain⟨F,ρ,H0,ds,ρ',R,e,k⟩:=hh;unfold Li at e;split at e
 ·rename_i xs ρ1 e1;split at e
  ·cases e
  ·rename_i hn;cases e;refine⟨F,ρ,H0,_,_,R,e1,λv H1 H1' s R' r=>?_⟩;unfold Rep at r;obtain⟨a,ys,rfl,h1,h2⟩:=r;rw[oM h2]at hn;exact⟨a,ys,rfl,SqT.mono R'.sub h1,hn,λp hp=>k _ _ _ (s.trans (o6 (R'.h0none hp) _)) (R'.newIm hp _) (uY (SqT.of oZ) (oN.mono (o6 (R'.h0none hp) _) _ _ (zU h2)))⟩
 ·cases e
theorem So(hK:X.K=G.K:=by rfl):SlR X (Na G.K):=by rw[<-hK];exact GY
end
section
variable{X:Cx}{B:Bz}{k:Nat}{e:Expr}{f:FE}{p pos:Pos}
theorem Px{lo hi:Option Expr}{l h:Option Int}[C:Cz X B k](he:ZE X B e f)(hl:ZK X lo l)(hh:ZK X hi h):ZE X B (.Subscript e (.Slice lo hi none p) pos) (Li f l h):=⟨Gf (zy (So C.K) he.p hl.p hh.p)⟩
end
theorem Mc{α:Type}[DecidableEq α]:∀{l L:List α},l.Nodup->(∀x∈l,x∈L)->l.length<=L.length
 |[],L,_,_=>cb _
 |a::l,L,nd,h=>by have h1:=h a aG;have nd':=dD.mp nd;have:=Mc (l:=l) (L:=L.erase a) nd'.2 λx hx=>(List.mem_erase_of_ne (λe:x=a=>nd'.1 (by rw[<-e];exact hx))).mpr (h x (aH _ hx));rw[List.length_erase_of_mem h1]at this;have:=List.length_pos_of_mem h1;rw[aA];omega
structure Tb(t:bq)(m n:Nat):Prop where
 mask:t.mask=m
 dm:t.dummies=#[]
 pl:t.place.size=n
variable{i q:Nat}
section
variable{t:bq}{m n:Nat}
theorem Tb.slot(T:Tb t m n)(j:Nat):(∃i,t.slot j=.live i/\t.place[i]?=some j)\/t.slot j=.empty:=by
 unfold l8;by_cases h:(t.place[bw t.place j]?==some j)=true
 ·left;simp only[h,if_true];exact⟨_,rfl,dH h⟩
 ·right;rw[lb]at h;rw[T.dm];simp[h,mn]
theorem Tb.free(T:Tb t m n)(h:n<=m):∃r,r<=m/\t.slot r=.empty:=by
 apply jG;intro no;have:(aT (m+1)).length<=t.place.toList.length:=Mc lg λr hr=>by
  rcases T.slot r with ⟨i,_,e⟩|e
  ·rw[<-bO]at e;exact bF e
  ·exact ao ⟨r,by have:=bN.mp hr;omega,e⟩ no
 rw[bK,bP,T.pl]at this;omega
def Emp(t:bq):Nat->cm->Prop
 |0,_=>False
 |f+1,p=>t.slot p.j=.empty\/Emp t f (t.advance p)
theorem Emp.mono:∀{f f':Nat} {p:cm},Emp t f p->f<=f'->Emp t f' p
 |0,_,_,h,_=>h.elim
 |f+1,0,_,_,h=>ao h (by omega)
 |f+1,f'+1,p,h,hl=>h.imp id λh=>h.mono (by omega)
def rs(m i q:Nat):cm:=⟨i,bT m i - i,i,q,none⟩
theorem Py(m i:Nat):bT m i - i<=9:=by unfold bT;split<;>omega
theorem Emp.run(T:Tb t m n){f:Nat}(h:Emp t f (rs m ((i * 5+1+q / 32) % (m+1)) (q / 32))):∀(k j:Nat),Emp t (f+k+1) ⟨j,k,i,q,none⟩
 |0,j=>.inr (by
   have e:t.advance ⟨j,0,i,q,none⟩=rs m ((i * 5+1+q / 32) % (m+1)) (q / 32):=by unfold eE l9;rw[T.mask];rfl
   rw[e];exact h)
 |k+1,j=>.inr (by
   have e:t.advance ⟨j,k+1,i,q,none⟩=⟨j+1,k,i,q,none⟩:=by unfold eE;rw[ah (df k)];rfl
   rw[e];exact Emp.run T h k (j+1))
theorem Emp.leap(T:Tb t m n){f:Nat}(h:Emp t f (rs m ((i * 5+1+q / 32) % (m+1)) (q / 32))):Emp t (f+10) (rs m i q):=
 (Emp.run T h (bT m i - i) i).mono (by have:=Py m i;omega)
def orb(m:Nat):Nat->Nat->List Nat
 |0,_=>[]
 |k+1,i=>i::orb m k ((i * 5+1) % (m+1))
theorem Emp.orb(T:Tb t m n){r:Nat}(hr:t.slot r=.empty):∀(k i:Nat),r∈orb m k i->Emp t (10 * k) (rs m i 0)
 |0,i,h=>by cases h
 |k+1,i,h=>by
  rcases aP.mp h with e|h
  ·exact Emp.mono (f:=1) (.inl (by rw[e]at hr;exact hr)) (by omega)
  ·have:=Emp.leap T (q:=0) (i:=i) (Emp.orb T hr k _ h);exact this.mono (by omega)
theorem BZ{p:cm}(h:p.dummy=none):(t.advance p).dummy=none:=by unfold eE;split<;>exact h
end
theorem Pz{t:bq}{F F':Nat->Int}{h:Int}(e:∀i,F i=F' i)(g:Nat)(p:cm):c5 t F h g p=c5 t F' h g p:=by obtain rfl:F=F':=funext e;rfl
variable{Q:Bool->ae->Prop}
section
variable{prog:ar}{w:aq}{A:aw}{E:aa->ae->Prop}{s:ae}
theorem IJ{a2:Addr}{k2:List Key}{l:List aa}(h1:∀v∈l,∃k a,v=.ref a/\TK prog w s.heap k a)(h2:TK prog w s.heap k2 a2)(h:Q false s):af (model prog w) A (searchCouldBeSeen (.ref a2) l) Q E s:=by
 unfold searchCouldBeSeen;refine aj ?_;show af _ _ (forIn l _ _) _ _ s;refine iV _ (λrest r s'=>r=(none,())/\s'=s/\∀v∈rest,∃k a,v=.ref a/\TK prog w s.heap k a) _ ?_ ?_ _ _ ⟨rfl,rfl,h1⟩
 ·rintro v rest r s' ⟨rfl,rfl,hall⟩;obtain⟨k,a1,rfl,h1⟩:=hall v aG;have go:∀v∈rest,∃k a,v=Value.ref a/\TK prog w s'.heap k a:=λu hu'=>hall u (aH _ hu');dsimp only;split
  ·exact ay ⟨rfl,rfl,go⟩
  ·refine aj (j3 h2 ?_);refine aj (j3 h1 ?_);refine aj (EO h2 ?_);refine aj (EO h1 ?_);exact ay ⟨rfl,rfl,go⟩
 ·rintro r s' ⟨rfl,rfl,_⟩;exact ay h
end
def Nn(ow:Array (Option Nat))(j:Nat):Prop:=(ow.getD j (some 0)).isNone=true
section
variable{ow:Array (Option Nat)}
def lv(ow:Array (Option Nat)):List (Nat×Nat):=(aT 32).filterMap λj=>(ow.getD j none).map (j,·)
end
def Cz2(m n:Nat):Prop:=(m=7/\n<=4)\/(m=31/\n<=18)\/(m=127/\19<=n/\n<=63)
section
variable{prog:ar}{w:aq}{A:aw}{E:aa->ae->Prop}{s:ae}
theorem IK{x:Str}{ks:List Key}{a:Addr}(hk:TK prog w s.heap (Sum.inr x::ks) a)(h:Q false s):af (model prog w) A (hashByValue 8 (.ref a)) Q E s:=by
 have hT:=hk.typeIs;obtain⟨o,items,n,ho,_,hd,hi⟩:=hk;unfold hashByValue;refine aj (gx hT F.slot_tuple_hash.lookup ?_);show af _ _ (seqItems? (.ref a)>>=_) _ _ s;refine aj (lL ho hd ?_);refine aj ?_;show af _ _ (forIn items _ _) _ _ s;rw[<-kC];generalize items.toList=l at hi ⊢;cases hi with
 |@cons _ v _ vs h1 h2=>
  obtain⟨t,rfl⟩:∃t,v=.str x t:=ET h1;refine iV _ (λrest r s'=>s'=s/\∃u,rest=.str x t::u) _ ?_ ?_ _ _ ⟨rfl,vs,rfl⟩
  ·rintro v rest r s' ⟨rfl,u,e⟩;cases e;refine aj (m:=hashByValue 7 (.str x t)) (ay ?_);exact ay (ay h)
  ·rintro r s' ⟨rfl,u,e⟩;cases e
end
structure AL(h:Heap)(S:Addr)(L:List (List Key×Addr))(led:Bool)(n:Nat)(o:Obj)(es:Array (Int×aa))(ep:Nat)(t:bq):Prop where
 at_:h.get? S=some o
 ex:o.ExactSet
 d:o.data=.set es ep t
 c:∃m,Tb t m n/\Cz2 m n
 led:t.led=led
 pl:0<n->t.plain=false
 p:(es.toList.map fT).Perm (L.map λq=>Value.ref q.2)
variable{led:Bool}{o:Obj}{ep:Nat}
theorem AL.sz{h:Heap}{S:Addr}{L:List (List Key×Addr)}{n:Nat}{es:Array (Int×aa)}{t:bq}(x:AL h S L led n o es ep t):es.size=L.length:=by have:=x.p.length_eq;rw[ag,ag,bP]at this;exact this
theorem AL.fits{h:Heap}{S:Addr}{L:List (List Key×Addr)}{n:Nat}{es:Array (Int×aa)}{t:bq}(x:AL h S L led n o es ep t)(hl:L.length=n):t.fits es.size=true:=by obtain⟨m,T,c⟩:=x.c;unfold fM i9;rw[x.sz,hl,T.pl,T.dm,T.mask,aE];exact⟨by simp,aO (by unfold Cz2 at c;simp;omega)⟩
end L4
namespace L4
open PySem PySem.Spec PySem.Calls PyProof.Rows PySem.W L2 L3
section
variable{prog:ar}{w:aq}{A:aw}{E:aa->ae->Prop}{s:ae}
abbrev TkS(k:List Str):List Key:=k.map Sum.inr
end
section
variable{X:Cx}{G:Bg}{H:Hp}{pins:List (Addr×Obj)}{σ:St}{s:ae}
theorem EV:∀{ds:List D} {ks:List (List Str)} {xs:List V},oN G H ds xs->yP ds=some ks->∃L:List (List Str×Addr),xs=L.map (λq=>V.ref q.2)/\ks=L.map bX/\∀q∈L,∃p r,q.1=[p,r]/\SqT G.K H q.2 [.str p,.str r]
 |[],ks,xs,r,e=>by cases e;unfold oN at r;subst r;exact⟨[],rfl,rfl,λq hq=>by cases hq⟩
 |d::ds,ks,xs,r,e=>by
  unfold yP at e;cases e1:key2 d with
  |none=>rw[e1]at e;cases e
  |some k=>
   cases e2:yP ds with
   |none=>rw[e1,e2]at e;cases e
   |some ks'=>
    rw[e1,e2]at e;cases e;unfold oN at r;obtain⟨v,r',rfl,q1,q2⟩:=r;obtain⟨L,rfl,rfl,h3⟩:=EV q2 e2;obtain⟨a,p,q,rfl,rfl,h1⟩:=IG q1 e1;refine⟨([p,q],a)::L,rfl,rfl,λz hz=>?_⟩;rcases aP.mp hz with rfl|hz
    ·exact⟨p,q,rfl,h1⟩
    ·exact h3 z hz
end
noncomputable abbrev cS(s:Str):FE:=cC (.str s)
noncomputable abbrev a1(e:FE):FA:=aCons e pC
end L4
namespace HT
open PySem PySem.Spec PyProof.Rows
section
variable{prog:ar}{w:aq}{A:aw}{E:aa->ae->Prop}{s:ae}
theorem wM{t sl:Addr}{items:Array aa}{vl vu:aa}{lo hi:Option Int}{Q:aa->ae->Prop}(ht:eW s.heap t items)(hs:s.heap.IsSliceOf sl vl vu .none)(pl:cX vl lo)(pu:cX vu hi)
  (hw:sIx items.size 0 lo=0/\sIx items.size items.size hi=items.size)
  (h:Q (.ref t) s):af (model prog w) A (getItem (.ref t) (.ref sl)) Q E s:=by
 obtain⟨os,hos,hcs,hds⟩:=id hs;have hTs:s.TypeIs (.ref sl) "slice" := ⟨os,hos,hcs⟩;unfold getItem
 try with_reducible refine cp ?_
 first|refine aj (ay ?_)|skip
 refine aj (kJ ht.typeIs (by decide) ?_);refine aj (jN (name:=mj "__getitem__") ht.typeIs dM
  (iU dM ht.typeIs kg ?_ (kz _ _)))
 show af _ _ (jF (.ref t)>>=_) _ _ s;refine aj (l0 ht ?_);refine aj (gL hTs ?_);rw[ah (by decide)];refine aj (uC hs pl pu ?_);have hno:((((sIx items.size 0 lo:Nat):Int)==0&&(1:Int)==1&&(sIx items.size items.size hi - sIx items.size 0 lo)==items.size)=true):=by rw[hw.1,hw.2];simp
 show af _ _ (if (((sIx items.size 0 lo:Nat):Int)==0&&(1:Int)==1&&(sIx items.size items.size hi - sIx items.size 0 lo)==items.size)=true then _ else _) _ _ s;rw[ah hno];refine aj (aj (gL ht.typeIs (ay ?_)));rw[ah (by decide)];exact aj (wpAny_rule (ay ⟨_,rfl,ay h⟩))
end
end HT
namespace L2
open PySem PySem.Spec PyProof.Rows
section
variable{X:Cx}
def PD(K:ak):V->Option Int->Option Int->Hp->VK->Prop:=λx lo hi H Q=>∃a xs,x=.ref a/\SqT K H a xs/\
 ((HT.sIx xs.length 0 lo=0/\HT.sIx xs.length xs.length hi=xs.length)->Q (.ref a) H)/\(¬(HT.sIx xs.length 0 lo=0/\HT.sIx xs.length xs.length hi=xs.length)->∀p,H p=none->Q (.ref p) (upd H p (.tup (BA xs lo hi))))
theorem Lj:SlR X (PD X.K):=by
 intro pins s σ H x v vl vu lo hi sl Q I rx hs pl pu h;obtain⟨a,xs,rfl,hx,q1,q2⟩:=h;by_cases hw:HT.sIx xs.length 0 lo=0/\HT.sIx xs.length xs.length hi=xs.length
 ·cases rx;obtain⟨its,r,ht,hz⟩:=I.tuple hx;have hlen:its.toArray.size=xs.length:=by rw[aR];exact r.length.symm
  exact⟨"tuple", _,dM.lookup,ht.typeIs,HT.wM ht hs pl pu (by rw[hlen];exact hw) ⟨.ref a,H,I,rfl,q1 hw⟩⟩
 ·exact GY pins s σ H _ v vl vu lo hi sl Q I rx hs pl pu ⟨a,xs,rfl,hx,hw,q2 hw⟩
def Rw(K:ak):R2:=λx y H Q=>∃a b xs ys,x=.ref a/\y=.ref b/\SqT K H a xs/\SqT K H b ys/\xs.length+ys.length<=aB/\
 (xs=[]->Q (.ref b) H)/\(ys=[]->Q (.ref a) H)/\∀p,H p=none->Q (.ref p) (upd H p (.tup (xs++ys)))
theorem Lk:OpR X (ck .Add) (Rw X.K):=by
 intro pins s σ H x y v u Q I rx ry h;obtain⟨a,b,xs,ys,rfl,rfl,ha,hb,hz,q0,q1,q2⟩:=h;by_cases hx:xs=[]
 ·cases rx;cases ry;obtain⟨its,r1,p1,_⟩:=I.tuple ha;obtain⟨its2,r2,p2,_⟩:=I.tuple hb;have hv:=r1.nil_iff.mpr hx;obtain⟨⟨cls,dd,data,sl⟩,ho,hc,n,hd⟩:=id p1;obtain⟨⟨cls2,dd2,data2,sl2⟩,ho2,hc2,n2,hd2⟩:=id p2;simp only at hc hd hc2 hd2;subst hc hd hc2 hd2;exact jf ⟨_,ho,rfl⟩ ⟨_,ho2,rfl⟩ iQ i8 iR iM (iF _ _)
   (tuple_addW0 _ _ its.toArray its2.toArray n n2 dd dd2 sl sl2 (by simp[hv])) ⟨ho,ho2,⟨.ref b,H,I,rfl,q0 hx⟩⟩
 ·exact Eu pins s σ H _ _ v u Q I rx ry ⟨a,b,xs,ys,rfl,rfl,ha,hb,hx,hz,q1,λ_=>q2⟩
end
end L2
namespace L4
open PySem PySem.Spec PyProof.Rows L2 L3
variable{e:Expr}{f:FE}
section
variable{X:Cx}{G:Bg}
def vJ(f:FE)(lo hi:FO):FE:=λρ=>match f ρ with
 |some (.tup ds,ρ1)=>match lo ρ1 with
  |some (l,ρ2)=>match hi ρ2 with
   |some (h,ρ3)=>some (.tup (cutD ds l h),ρ3)
   |none=>none
  |none=>none
 |_=>none
theorem Gg{lo hi:FO}(h:PE X e (tSl (PD G.K) (tF G f) (tFO G lo) (tFO G hi))):PE X e (tF G (vJ f lo hi)):=PE.weak h λσ H Q hh=>by
 obtain⟨F,ρ,H0,d,ρ',R,e,k⟩:=hh;unfold vJ at e;split at e
 ·rename_i ds ρ1 e1;split at e
  ·rename_i l ρ2 e2;split at e
   ·rename_i hx ρ3 e3;cases e;refine⟨F,ρ,H0,_,_,R,e1,λv H1 H1' s R' r=>⟨F,ρ1,H1,l,ρ2,R',e2,λH2 H2' s2 R2=>⟨F,ρ2,H2,hx,_,R2,e3,λH3 H3' s3 R3=>?_⟩⟩⟩;have r3:=Rep.mono (s2.trans s3) _ _ r;have r0:=r3;unfold Rep at r3;obtain⟨a,ys,rfl,h1,h2⟩:=r3;refine⟨a,ys,rfl,SqT.mono R3.sub h1,λhw=>?_,λ_ p hp=>k _ _ _ ((s.trans (s2.trans s3)).trans (o6 (R3.h0none hp) _)) (R3.newIm hp _) (uY (SqT.of oZ) (oN.mono (o6 (R3.h0none hp) _) _ _ (zU h2)))⟩;have ec:cutD ds l hx=ds:=by unfold cutD;rw[<-oM h2]at hw;rw[hw.1,hw.2];simp
    rw[ec]at k;exact k _ _ _ (s.trans (s2.trans s3)) R3 r0
   ·cases e
  ·cases e
 ·cases e
theorem Sq(hK:X.K=G.K:=by rfl):SlR X (PD G.K):=by rw[<-hK];exact Lj
def Aa(f g:FE):FE:=λρ=>match f ρ with
 |some (.tup xs,ρ1)=>match g ρ1 with
  |some (.tup ys,ρ2)=>if xs.length+ys.length<=900 then some (.tup (xs++ys),ρ2)else none
  |_=>none
 |_=>none
theorem Ll{a b:Expr}{g:FE}{pos:Pos}(ha:PE X a (tF G f))(hb:PE X b (tF G g))(hK:X.K=G.K:=by rfl):PE X (.BinOp a .Add b pos) (tF G (Aa f g)):=PE.weak (El Lk ha hb) λσ H Q hh=>by
 rw[hK];obtain⟨F,ρ,H0,d,ρ',R,e,k⟩:=hh;unfold Aa at e;split at e
 ·rename_i xs ρ1 e1;split at e
  ·rename_i ys ρ2 e2;split at e
   ·rename_i hl;cases e;refine⟨F,ρ,H0,_,ρ1,R,e1,λv H1 H1' s R' r=>⟨F,ρ1,H1,_,_,R',e2,λu H2 H2' s2 R2 r2=>?_⟩⟩;have r':=Rep.mono s2 _ _ r;have r0:=r';have r3:=r2;unfold Rep at r' r2;obtain⟨a1,xs1,rfl,h1,h2⟩:=r';obtain⟨a2,xs2,rfl,h3,h4⟩:=r2;have l1:=oM h2;have l2:=oM h4;refine⟨a1,a2,xs1,xs2,rfl,rfl,SqT.mono R2.sub h1,SqT.mono R2.sub h3,by rw[<-l1,<- l2];exact rj (by omega),λz=>?_,λz=>?_,λp hp=>?_⟩
    ·have ex:xs=[]:=by rw[z]at l1;exact ig.mp l1
     subst ex;exact k _ _ _ (s.trans s2) R2 r3
    ·have ey:ys=[]:=by rw[z]at l2;exact ig.mp l2
     subst ey;rw[bH]at k;exact k _ _ _ (s.trans s2) R2 r0
    ·exact k _ _ _ ((s.trans s2).trans (o6 (R2.h0none hp) _)) (R2.newIm hp _) (uY (SqT.of oZ) (oN.mono (o6 (R2.h0none hp) _) _ _ (qh h2 h4)))
   ·cases e
  ·cases e
 ·cases e
def Rx(G:Bg)(a n:FA):TA:=λσ H Q=>∃F ρ H0 ds ρ1 ns ρ2,o8 G F σ ρ H0 H/\a ρ=some (ds,ρ1)/\n ρ1=some (ns,ρ2)/\∀xs p zs H0' H',oW H0 H0'->o8 G F σ ρ2 H0' H'->oN G H0' ds xs->H' p=some (.lst zs)->H0' p=none->F.B p=none->Apart σ ρ2 p->oN G H0' ns zs->Q (xs++[.ref p]) H'
theorem IL{n:FA}(h:PE X e (tFN G n))(hs:az [e] X.env=[(false,eval e X.env)]):PA X [e] (Rx G pC n):=PA.weak (rH h uS hs) λσ H Q hh=>by obtain⟨F,ρ,H0,ds,ρ1,ns,ρ2,R,e,en,k⟩:=hh;cases e;exact⟨F,ρ,H0,ns,ρ2,R,en,λp zs H1 H1' s R' h1 h2 h3 h4 h5=>k [] p zs _ _ s R' pB h1 h2 h3 h4 h5⟩
def cMutT(g:List D->List D->Option (D×List D))(a n:FA):FE:=λρ=>match a ρ with
 |some (ds,ρ1)=>match n ρ1 with
  |some (ns,ρ2)=>match g ns ds with
   |some (d,_)=>some (d,ρ2)
   |none=>none
  |none=>none
 |none=>none
theorem o8.temp{F:Fr}{σ:St}{ρ:List Sl}{H0 H H0' H':Hp}(R:o8 G F σ ρ H0 H){b:Addr}{zs:List V}(hb:F.B b=none)(ap:Apart σ ρ b)(s1:oW H0 H0')(s2:oW H0' H')(s3:∀c o,H c=some o->c≠b->H' c=some o)(fr:∀c o,H0' c=some o->H0 c=some o\/H c=none)(hz:H' b=some (.lst zs)):o8 G F σ ρ H0' H' where
 sub:=s2
 g0:=R.g0.trans s1
 keep:=λc o e n=>s3 c o (R.keep c o e n) λz=>by rw[z,hb]at e;cases e
 fr:=λc o e=>(fr c o e).elim (R.fr c o) λh=>.inr (R.bNone h)
 am:=λc hc=>by
  obtain⟨o,q⟩:=R.am c hc;by_cases z:c=b
  ·exact⟨_,z▸hz⟩
  ·exact⟨o,s3 c o q z⟩
 len:=R.len
 sl:=λi t e=>(R.sl i t e).grow s1 (λc u z so q=>s3 c u q λw=>ap i t e so (by rw[z,w])) λc u z so q q0=>by
  cases w:H0' c with
  |none=>rfl
  |some o=>
   rcases fr c o w with v|v
   ·rw[v]at q0;cases q0
   ·rw[v]at q;cases q
 ap:=R.ap
end
section
variable{X:Cx}{B:Bz}{k j:Nat}{x:Str}{e e':Expr}{es:List Expr}{f f':FE}{a n:FA}{p pos:Pos}{g:List D->List D->Option (D×List D)}
theorem PF{lo hi:Option Expr}{fl fh:FO}[C:Cz X B k](he:ZE X B e f)(hl:ZO X B lo fl)(hh:ZO X B hi fh):ZE X B (.Subscript e (.Slice lo hi none p) pos) (vJ f fl fh):=⟨Gg (zy (Sq C.K) he.p hl.p hh.p)⟩
theorem PH [C:Cz X B k](ha:ZE X B e f)(hb:ZE X B e' f'):ZE X B (.BinOp e .Add e' pos) (Aa f f'):=⟨Ll ha.p hb.p C.K⟩
end
mutual
def Ab:D->Bool
 |.non=>true
 |.bl _=>true
 |.int _=>true
 |.str _=>true
 |.tup ds=>Ac ds
 |.lst ds=>Ac ds
 |_=>false
def Ac:List D->Bool
 |[]=>true
 |d::ds=>Ab d&&Ac ds
end
mutual
theorem Rep.but{G:Bg}{H H1:Hp}(e:∀b o,H b=some o->(∀u kvs,o≠HO.frz u (.dK kvs))->H1 b=some o):∀(d:D) (v:V),Ab d=true->Rep G H d v->Rep G H1 d v
 |.non,v,_,h=>by unfold Rep at h ⊢;exact h
 |.bl b,v,_,h=>by unfold Rep at h ⊢;exact h
 |.int i,v,_,h=>by unfold Rep at h ⊢;exact h
 |.str x,v,_,h=>by unfold Rep at h ⊢;exact h
 |.tup ds,v,n,h=>by
  unfold Rep at h ⊢;unfold Ab at n;obtain⟨a,xs,rfl,h1,h2⟩:=h;refine⟨a,xs,rfl,?_,oN.but e ds xs n h2⟩;rcases h1 with (h|⟨o,h⟩)|h
  ·exact .inl (.inl (e _ _ h λ_ _ z=>nomatch z))
  ·exact .inl (.inr ⟨o,e _ _ h λ_ _ z=>nomatch z⟩)
  ·exact .inr h
 |.lst ds,v,n,h=>by unfold Rep at h ⊢;unfold Ab at n;obtain⟨a,xs,rfl,h1,h2⟩:=h;exact⟨a,xs,rfl,e _ _ h1 (λ_ _ z=>nomatch z),oN.but e ds xs n h2⟩
 |.fzl ds,v,n,h=>by unfold Ab at n;cases n
 |.obj c ns ds,v,n,h=>by unfold Ab at n;cases n
 |.dic ks ds,v,n,h=>by unfold Ab at n;cases n
theorem oN.but{G:Bg}{H H1:Hp}(e:∀b o,H b=some o->(∀u kvs,o≠HO.frz u (.dK kvs))->H1 b=some o):∀(ds:List D) (xs:List V),Ac ds=true->oN G H ds xs->oN G H1 ds xs
 |[],xs,_,h=>by unfold oN at h ⊢;exact h
 |d::ds,xs,n,h=>by unfold oN at h ⊢;unfold Ac at n;rw[aE]at n;obtain⟨v,r,rfl,h1,h2⟩:=h;exact⟨v,r,rfl,Rep.but e d v n.1 h1,oN.but e ds r n.2 h2⟩
end
def Sl.ldk:Sl->Bool
 |.un=>true
 |.im _=>true
 |.dk _ _=>true
 |_=>false
abbrev Upw(xs:Array Nat):Prop:=xs.toList.Pairwise (· < ·)
variable{i:Nat}
theorem D5{xs:Array Nat}(h:Upw xs){k a b:Nat}(hik:i<k)(ha:xs[i]?=some a)(hb:xs[k]?=some b):a<b:=by rw[<-bO]at ha hb;obtain⟨h1,rfl⟩:=br.mp ha;obtain⟨h2,rfl⟩:=br.mp hb;exact fZ.mp h i k h1 h2 hik
theorem Ad{xs:Array Nat}(h:Upw xs)(j:Nat):∀(f lo hi:Nat),hi<=xs.size->lo<=hi->hi - lo<=f->(∀i a,i<lo->xs[i]?=some a->a<j)->(∀i a,hi<=i->xs[i]?=some a->j<=a)->
  gr xs j f lo hi<=xs.size/\(∀i a,i<gr xs j f lo hi->xs[i]?=some a->a<j)/\∀i a,gr xs j f lo hi<=i->xs[i]?=some a->j<=a
 |0,lo,hi,h1,h2,h3,h4,h5=>⟨bp h2 h1,h4,λi a hi'=>h5 i a (bp (by omega) (show lo<=i from hi'))⟩
 |f+1,lo,hi,h1,h2,h3,h4,h5=>by
  unfold gr;by_cases hl:lo<hi
  ·rw[ah hl];have hm:(lo+hi) / 2<xs.size:=by omega
   have e:xs[(lo+hi) / 2]?=some xs[(lo+hi) / 2]:=du hm;have g:xs.getD ((lo+hi) / 2) j=xs[(lo+hi) / 2]:=by rw[dN,e];rfl
   dsimp only;rw[g];by_cases hc:xs[(lo+hi) / 2]<j
   ·rw[ah hc];refine Ad h j f _ hi h1 (by omega) (by omega) (λi a hi' ea=>?_) h5;rcases jh i ((lo+hi) / 2)with z|z
    ·exact gO (D5 h z ea e) hc
    ·have:i=(lo+hi) / 2:=by omega
     rw[this,e]at ea;cases ea;exact hc
   ·rw[ai hc];refine Ad h j f lo _ (by omega) (by omega) (by omega) h4 λi a hi' ea=>?_;rcases jh ((lo+hi) / 2) i with z|z
    ·have:=D5 h z e ea;omega
    ·have:i=(lo+hi) / 2:=by omega
     rw[this,e]at ea;cases ea;omega
  ·rw[ai hl];exact⟨by omega,h4,λi a hi'=>h5 i a (by omega)⟩
theorem Ae{xs:Array Nat}(h:Upw xs)(j:Nat):bw xs j<=xs.size/\(∀i a,i<bw xs j->xs[i]?=some a->a<j)/\∀i a,bw xs j<=i->xs[i]?=some a->j<=a:=
 Ad h j xs.size 0 xs.size (aC _) (cb _) (by omega) (λi a z=>ao z (by omega)) λi a z e=>by have:=(fX.mp e).1;omega
variable{j:Nat}
theorem below_at{xs:Array Nat}(h:Upw xs)(e:xs[i]?=some j):bw xs j=i:=by
 obtain⟨h1,h2,h3⟩:=Ae h j;rcases kN (bw xs j) i with z|z|z
 ·have hb:bw xs j<xs.size:=gO z (fX.mp e).1;have eb:xs[bw xs j]?=some xs[bw xs j]:=du hb;have:=h3 _ _ (aC _) eb;have:=D5 h z eb e;omega
 ·exact z
 ·have:=h2 i j z e;omega
theorem Di{α:Type}(xs:Array α)(p:Nat)(x:α):(b9 xs p x).toList=xs.toList.take p++x::xs.toList.drop p:=by unfold b9;simp;rw[ik];rw[eD,bP];exact aC _
theorem uR{α:Type}(xs:Array α){p:Nat}(hp:p<=xs.size)(x:α)(i:Nat):(b9 xs p x)[i]?=if i<p then xs[i]? else if i=p then some x else xs[i - 1]?:=by
 have len:(xs.toList.take p).length=p:=by rw[bL,bP];omega
 rw[<-bO,Di,List.getElem?_append,len];by_cases h:i<p
 ·rw[ah h,ah h,List.getElem?_take,ah h,bO]
 ·rw[ai h,ai h];by_cases h2:i=p
  ·subst h2;rw[ah rfl,gQ];rfl
  ·rw[ai h2];obtain⟨k,rfl⟩:∃k,i=p+(k+1):=⟨i - p - 1,by omega⟩;rw[show p+(k+1) - p=k+1 by omega,jP,c4,bO];congr 1
theorem PJ{xs:Array Nat}(h:Upw xs)(hj:j∉xs.toList):Upw (b9 xs (bw xs j) j):=by
 obtain⟨h1,h2,h3⟩:=Ae h j;have h':=h;unfold Upw at h' ⊢;rw[Di,j9];rw[<-j4 (bw xs j) xs.toList,j9]at h';have lo:∀a∈xs.toList.take (bw xs j),a<j:=λa ha=>by obtain⟨i,hi,rfl⟩:=dQ.mp ha;have hi':=hi;rw[bL]at hi';refine h2 i _ (by omega) ?_;rw[<-bO,List.getElem_take,aQ]
 have hg:∀a∈xs.toList.drop (bw xs j),j<a:=λa ha=>by
  have ma:a∈xs.toList:=j8 ha;obtain⟨i,hi,rfl⟩:=dQ.mp ha;have hi':=hi;rw[eD]at hi';have:=h3 (bw xs j+i) (xs.toList.drop (bw xs j))[i] (by omega) (by rw[<-bO,List.getElem_drop,aQ]);rcases kF this with z|z
  ·exact z
  ·exact ao (z▸ma) hj
 refine⟨h'.1,List.pairwise_cons.mpr ⟨hg,h'.2.1⟩,λa ha b hb=>?_⟩;rcases aP.mp hb with rfl|hb
 ·exact lo a ha
 ·exact gO (lo a ha) (hg b hb)
structure Tu(t:bq)(m n:Nat):Prop extends Tb t m n where
 up:Upw t.place
section
variable{t:bq}{m n:Nat}
theorem Tu.live(T:Tu t m n)(e:t.place[i]?=some j):t.slot j=.live i:=by unfold l8;rw[below_at T.up e];dsimp only;rw[e];simp
theorem Tu.emp(T:Tu t m n)(e:t.slot j=.empty):j∉t.place.toList:=λh=>by obtain⟨i,hi,rfl⟩:=dQ.mp h;rw[T.live (i:=i) (by rw[<-bO,aQ hi])]at e;cases e
def tM(m:Nat):bq:=⟨m,#[],#[],0,false,0,false⟩
def Wy(m:Nat)(O:Nat->Prop)(j:Nat):Nat->cm->Prop
 |0,_=>False
 |f+1,p=>p.j=j\/(O p.j/\Wy m O j f ((tM m).advance p))
theorem Wy.mono{O O':Nat->Prop}(h:∀x,O x->O' x):∀{f f':Nat} {p:cm},Wy m O j f p->f<=f'->Wy m O' j f' p
 |0,_,_,w,_=>w.elim
 |f+1,0,_,_,l=>ao l (by omega)
 |f+1,f'+1,p,w,l=>w.imp id λw=>⟨h _ w.1,w.2.mono h (by omega)⟩
theorem B2(T:Tb t m n)(p:cm):t.advance p=(tM m).advance p:=by obtain⟨rfl,_,_⟩:=T;rfl
theorem Md(T:Tb t m n)(h:Int):t.probeStart h=(tM m).probeStart h:=by obtain⟨rfl,_,_⟩:=T;rfl
abbrev Oc(t:bq)(x:Nat):Prop:=x∈t.place.toList
theorem PK{x:Nat}(h:Oc t x):∃i:Nat,t.place[i]?=some x:=by obtain⟨i,hi,rfl⟩:=dQ.mp h;exact⟨i,by rw[<-bO,aQ hi]⟩
theorem Me(T:Tu t m n)(F:Nat->Int)(h:Int){i0 j0:Nat}(e0:t.place[i0]?=some j0)(h0:F i0=h):∀(f:Nat) (p:cm),p.dummy=none->Wy m (Oc t) j0 f p->∀g,f<=g->
  ∃j i next f',f'<f/\t.slot j=.live i/\t.place[i]?=some j/\F i=h/\c5 t F h g p=some (.candidate j i next)/\next.dummy=none/\(i=i0\/Wy m (Oc t) j0 f' next)
 |0,p,_,he,g,_=>he.elim
 |f+1,p,hd,he,0,hg=>ao hg (by omega)
 |f+1,p,hd,he,g+1,hg=>by
  unfold c5;obtain⟨i,ei,hi⟩:∃i:Nat,t.place[i]?=some p.j/\(i=i0\/Wy m (Oc t) j0 f ((tM m).advance p)):=by
   rcases he with e|⟨e,w⟩
   ·exact⟨i0,by rw[e];exact e0,.inl rfl⟩
   ·obtain⟨i,ei⟩:=PK e;exact⟨i,ei,.inr w⟩
  rw[T.live ei];dsimp only;rw[B2 T.toTb];by_cases hh:F i=h
  ·exact⟨p.j,i,(tM m).advance p,f,dW f,T.live ei,ei,hh,by rw[ah (by rw[hh];simp)],BZ hd,hi⟩
  ·rw[ai (by simpa using hh)];have w:=hi.resolve_left λe=>hh (by rw[e];exact h0);obtain⟨j,i',nx,f',h1,h2⟩:=Me T F h e0 h0 f _ (BZ hd) w g (by omega);exact⟨j,i',nx,f',by omega,h2⟩
theorem Mg(T:Tu t m n)(F:Nat->Int)(h:Int):∀(f:Nat) (p:cm),p.dummy=none->Emp t f p->∀g,f<=g->(∃j,t.slot j=.empty/\c5 t F h g p=some (.empty j none)/\Wy m (Oc t) j f p)\/
  ∃j i next f',f'<f/\t.slot j=.live i/\t.place[i]?=some j/\F i=h/\c5 t F h g p=some (.candidate j i next)/\next.dummy=none/\Emp t f' next/\∀x,Wy m (Oc t) x f' next->Wy m (Oc t) x f p
 |0,p,_,he,g,_=>he.elim
 |f+1,p,hd,he,0,hg=>ao hg (by omega)
 |f+1,p,hd,he,g+1,hg=>by
  unfold c5;rcases T.slot p.j with ⟨i,e1,e2⟩|e1
  ·have he:Emp t f (t.advance p):=he.resolve_left λe=>by rw[e1]at e;cases e
   have oc:Oc t p.j:=by rw[<-bO]at e2;exact bF e2
   rw[e1];dsimp only;by_cases hh:F i=h
   ·right;exact⟨p.j,i,t.advance p,f,dW f,e1,e2,hh,by rw[ah (by rw[hh];simp)],BZ hd,he,λx w=>.inr ⟨oc,by rw[<-B2 T.toTb];exact w⟩⟩
   ·rw[ai (by simpa using hh)];rcases Mg T F h f (t.advance p) (BZ hd) he g (by omega)with ⟨j,h1,h2,h3⟩|⟨j,i',nx,f',h1,h2,h3,h4,h5,h6,h7,h8⟩
    ·exact .inl ⟨j,h1,h2,.inr ⟨oc,by rw[<-B2 T.toTb];exact h3⟩⟩
    ·exact .inr ⟨j,i',nx,f',by omega,h2,h3,h4,h5,h6,h7,λx w=>.inr ⟨oc,by rw[<-B2 T.toTb];exact h8 x w⟩⟩
  ·left;rw[e1];exact⟨p.j,e1,by rw[hd],.inl rfl⟩
end
noncomputable abbrev hkE(prog:ar) (w:aq) (q:List Key×Addr):Int×aa:=(tupleKeyHash (o7 prog w) q.1,.ref q.2)
structure Eh(prog:ar)(w:aq)(h:Heap)(L:List (List Key×Addr))(es:Array (Int×aa)):Prop where
 tk:∀q∈L,TK prog w h q.1 q.2
 p:es.toList.Perm (L.map (hkE prog w))
section
variable{prog:ar}{w:aq}{A:aw}{E:aa->ae->Prop}{s:ae}{L:List (List Key×Addr)}{es:Array (Int×aa)}{t:bq}{m n ep:Nat}{S a2:Addr}{k2:List Key}{o:Obj}{h:Int}
theorem Eh.at(l:Eh prog w s.heap L es){i:Nat}{e:Int×aa}(he:es[i]?=some e):∃q∈L,e=hkE prog w q:=by rw[<-bO]at he;obtain⟨q,hq,rfl⟩:=aI.mp (l.p.mem_iff.mp (bF he));exact⟨q,hq,rfl⟩
theorem Ag{Q:jC->ae->Prop}{R:Nat->cm->Prop}{Z:Nat->Prop}(hu:A.units<cLine)(T:Tb t m n)(hm:m % 2=1)(hf:t.fits es.size=true)(l:Eh prog w s.heap L es)(t2:TK prog w s.heap k2 a2)
  (ho:s.heap.get? S=some o) (hd:o.data=.set es ep t) (hZ:∀j,Z j->Q (.free j false) s) (hT:k2∈L.map bX->Q (.there none) s)
  (step:∀f p,p.dummy=none->R f p->f<=10 * bE m->(∃j,c5 t (λi=>(es[i]?.map (·.1)).getD 0) h (10 * bE m) p=some (.empty j none)/\Z j)\/∃j i next f',f'<f/\t.slot j=.live i/\t.place[i]?=some j/\
   c5 t (λi=>(es[i]?.map (·.1)).getD 0) h (10 * bE m) p=some (.candidate j i next)/\next.dummy=none/\((∃q∈L,es[i]?=some (hkE prog w q)/\q.1=k2)\/R f' next)):∀(fuel f:Nat) (st:Option cm),f<fuel->f<=10 * bE m->(st.getD (t.probeStart h)).dummy=none->R f (st.getD (t.probeStart h))->
   af (model prog w) A (setSearchFrom S (.ref a2) h true fuel st) Q E s
 |0,f,st,hl,_,_,_=>ao hl (by omega)
 |fuel+1,f,st,hl,hg,hdm,he=>by
  have sz:es.size=n:=by unfold fM at hf;rw[aE,beq_iff_eq,T.pl]at hf;exact hf.1.symm
  unfold setSearchFrom;refine aj (fF ho hd hf ?_);dsimp only;rw[ai (by unfold SetTable.gaveWay;rw[T.mask,hm];decide)];unfold SetTable.probe;rw[Pz (F':=λi=>(es[i]?.map (·.1)).getD 0),T.mask]
  rotate_left
  ·intro i;rfl
  rcases step f _ hdm he hg with ⟨j,e2,z⟩|⟨j,i,nx,f',h1,h2,h3,h5,h6,h7⟩
  ·rw[e2];exact ay (hZ j z)
  ·rw[h5];dsimp only;have hi:i<es.size:=by rw[sz,<- T.pl];exact(fX.mp h3).1
   obtain⟨q,hq,ey,c⟩:∃q∈L,es[i]?=some (hkE prog w q)/\(q.1=k2\/R f' nx):=by
    rcases h7 with ⟨q,hq,e,k⟩|h7
    ·exact⟨q,hq,e,.inl k⟩
    ·obtain⟨q,hq,e⟩:=l.at (du hi);exact⟨q,hq,by rw[<-e,du hi],.inr h7⟩
   have t1:=l.tk q hq;have si:t.sameMemory t.moves m=some true:=by unfold SetTable.sameMemory;simp
   have sb:∀v∈List.map (λx:Int×aa=>x.snd) (Array.filter (λx=>x.fst==h) es).toList,∃k a,v=Value.ref a/\TK prog w s.heap k a:=λv hv=>by
    obtain⟨e,he,rfl⟩:=aI.mp hv;have he:e∈es.toList:=by rw[Array.toList_filter]at he;exact(bu.mp he).1
    obtain⟨q,hq,rfl⟩:=aI.mp (l.p.mem_iff.mp he);exact⟨q.1,q.2,rfl,l.tk q hq⟩
   cases hb:t.led;refine aj (IJ sb t2 ?_)
   all_goals
    rw[ey];refine aj (cp (wpAny_eqBool_tuple hu t1 t2 ?_));refine aj (fF ho hd hf ?_);by_cases hk:q.1=k2
    ·rw[aO hk];exact ay (hT (aI.mpr ⟨q,hq,hk⟩))
    rw[aU hk];dsimp only;rw[ai (by decide),si];dsimp only;rw[ah rfl,h2];dsimp only;rw[ey];refine aj (wpAny_isSame_ref_self ?_);refine aj (ay ?_);exact Ag hu T hm hf l t2 ho hd hZ hT step fuel f' (some nx) (by omega) (by omega) h6 (c.resolve_left hk)
def Lm(m:Nat)(t:bq)(es:Array (Int×aa)):Prop:=∀(i:Nat) (e:Int×aa) (j:Nat),es[i]?=some e->t.place[i]?=some j->Wy m (Oc t) j (10 * bE m) ((tM m).probeStart e.1)
theorem IM{Q:jC->ae->Prop}(hu:A.units<cLine)(T:Tu t m n)(hm:m % 2=1/\10 * bE m<100000)(hf:t.fits es.size=true)(l:Eh prog w s.heap L es)(W:Lm m t es)(t2:TK prog w s.heap k2 a2)(ho:s.heap.get? S=some o)(hd:o.data=.set es ep t)
  (he:k2∈L.map bX) (hT:Q (.there none) s):af (model prog w) A (setSearchFrom S (.ref a2) (tupleKeyHash (o7 prog w) k2) true 100000 none) Q E s:=by
 obtain⟨q,hq,rfl⟩:=aI.mp he;obtain⟨i0,hi,e0⟩:=dQ.mp (l.p.mem_iff.mpr (cM (f:=hkE prog w) hq));have e0:es[i0]?=some (hkE prog w q):=by rw[<-bO,aQ hi,e0]
 have sz:es.size=t.place.size:=by unfold fM at hf;rw[aE,beq_iff_eq]at hf;exact hf.1.symm
 rw[bP]at hi;have p0:t.place[i0]?=some t.place[i0]:=du (by omega);refine Ag (Z:=λ_=>False) (R:=λf p=>Wy m (Oc t) t.place[i0] f p) hu T.toTb hm.1 hf l t2 ho hd (λj z=>z.elim) (λ_=>hT) (λf p hdm wy hg=>.inr ?_) 100000 _ none hm.2 (aC _) rfl (by
  rw[gu,Md T.toTb];exact W i0 _ _ e0 p0)
 obtain⟨j,i,nx,f',h1,h2,h3,h4,h5,h6,h7⟩:=Me T (λi=>(es[i]?.map (·.1)).getD 0) (tupleKeyHash (o7 prog w) q.1) p0 (by show (es[i0]?.map (·.1)).getD 0=_;rw[e0];rfl) f p hdm wy _ hg
 refine⟨j,i,nx,f',h1,h2,h3,h5,h6,?_⟩;rcases h7 with rfl|h7
 ·exact .inl ⟨q,hq,e0,rfl⟩
 ·exact .inr h7
theorem IP{Q:jC->ae->Prop}(hu:A.units<cLine)(T:Tu t m n)(hm:m % 2=1/\10 * bE m<100000)(hf:t.fits es.size=true)(l:Eh prog w s.heap L es)(t2:TK prog w s.heap k2 a2)(ho:s.heap.get? S=some o)(hd:o.data=.set es ep t)
  (he:k2∉L.map bX) (em:Emp t (10 * bE m) (t.probeStart h)) (hZ:∀j,t.slot j=.empty->Wy m (Oc t) j (10 * bE m) ((tM m).probeStart h)->Q (.free j false) s):af (model prog w) A (setSearchFrom S (.ref a2) h true 100000 none) Q E s:=by
 refine Ag (Z:=λj=>t.slot j=.empty/\Wy m (Oc t) j (10 * bE m) ((tM m).probeStart h)) (R:=λf p=>Emp t f p/\∀x,Wy m (Oc t) x f p->Wy m (Oc t) x (10 * bE m) ((tM m).probeStart h)) hu T.toTb hm.1 hf l t2 ho hd (λj z=>hZ j z.1 z.2) (λz=>ao z he) (λf p hdm wy hg=>?_) 100000 _ none hm.2 (aC _) rfl ⟨em,λx w=>by
  rw[gu,Md T.toTb]at w;exact w⟩
 rcases Mg T (λi=>(es[i]?.map (·.1)).getD 0) h f p hdm wy.1 _ hg with ⟨j,h1,h2,h3⟩|⟨j,i',nx,f',h1,h2,h3,h4,h5,h6,h7,h8⟩
 ·exact .inl ⟨j,h2,h1,wy.2 j h3⟩
 ·exact .inr ⟨j,i',nx,f',h1,h2,h3,h5,h6,.inr ⟨h7,λx z=>wy.2 x (h8 x z)⟩⟩
end
def Mm(m:Nat):Prop:=m=7\/m=31\/m=127
def PL(m:Nat):Nat->Nat->Nat->Nat
 |0,_,z=>z
 |k+1,i,z=>PL m k ((i * 5+1) % (m+1)) (z|||2 ^ i)
theorem EW{m r:Nat}:∀(k i z:Nat),(PL m k i z).testBit r=true->r∈orb m k i\/z.testBit r=true
 |0,i,z,h=>.inr h
 |k+1,i,z,h=>by
  rcases EW k _ _ h with h|h
  ·exact .inl (aH _ h)
  ·rw[Nat.testBit_or,Nat.testBit_two_pow,gy,bc]at h;rcases h with h|rfl
   ·exact .inr h
   ·exact .inl aG
theorem IQ{m:Nat}(hm:Mm m){r:Nat}(hi:i<=m)(hr:r<=m):r∈orb m (m+1) i:=by
 have h:∀m∈[7,31,127],((aT (m+1)).all λi=>PL m (m+1) i 0==2 ^ (m+1) - 1)=true:=by decide +kernel
 have:=aD.mp (h m (by rcases hm with rfl|rfl|rfl<;>simp)) i (bN.mpr (by omega));refine(EW (m+1) i 0 ?_).resolve_right (by simp);rw[dH this,Nat.testBit_two_pow_sub_one,bc];omega
theorem Mm.odd{m:Nat}(h:Mm m):m % 2=1/\10 * bE m<100000:=by rcases h with rfl|rfl|rfl<;>decide
variable{led:Bool}
section
variable{t:bq}{m n:Nat}
theorem Emp.al(T:Tb t m n)(hm:Mm m)(hn:n<=m):∀(k i q:Nat),i<=m->q<32 ^ k->Emp t (10 * (k+(m+1))) (rs m i q)
 |0,i,q,hi,hq=>by
  obtain⟨r,hr,e⟩:=T.free hn;have q0:q=0:=by simpa using hq
  rw[q0,eJ];exact Emp.orb T e _ _ (IQ hm hi hr)
 |k+1,i,q,hi,hq=>by have:=Emp.leap T (Emp.al T hm hn k ((i * 5+1+q / 32) % (m+1)) (q / 32) (dU (ee _ (df m))) (by rw[mr]at hq;omega));exact this.mono (by omega)
theorem EX(h:Int):cf h<32 ^ 13:=by unfold cf;omega
theorem Emp.st(T:Tb t m n)(hm:Mm m)(hn:n<=m)(h:Int):Emp t (10 * bE m) (t.probeStart h):=by
 have:=Emp.al T hm hn 13 (cf h % (m+1)) (cf h) (dU (ee _ (df m))) (EX h);have e:t.probeStart h=rs m (cf h % (m+1)) (cf h):=by unfold SetTable.probeStart;rw[T.mask];rfl
 rw[e];exact this.mono (by unfold bE;omega)
variable{ow:Array (Option Nat)}{O:Nat->Prop}{j:Nat}
theorem IR{i q:Nat}:∀(k mo x:Nat),k<=mo->(∀k',k'<k->O (x+k'))->x+k=j->Wy m O j (k+1) ⟨x,mo,i,q,none⟩
 |0,mo,x,_,_,e=>.inl e
 |k+1,0,x,h,_,_=>ao h (by omega)
 |k+1,mo+1,x,h,ho,e=>.inr ⟨ho 0 (by omega),by
   have e1:(tM m).advance ⟨x,mo+1,i,q,none⟩=⟨x+1,mo,i,q,none⟩:=by unfold eE;rw[ah (df mo)];rfl
   rw[e1];exact IR k mo (x+1) (by omega) (λk' hk=>by rw[show x+1+k'=x+(k'+1) by omega];exact ho _ (by omega)) (by omega)⟩
theorem EY{i q f:Nat}(h:Wy m O j f (rs m ((i * 5+1+q / 32) % (m+1)) (q / 32))):∀(mo x:Nat),(∀k,k<=mo->O (x+k))->Wy m O j (f+mo+1) ⟨x,mo,i,q,none⟩
 |0,x,ho=>.inr ⟨ho 0 (aC _),by
   have e:(tM m).advance ⟨x,0,i,q,none⟩=rs m ((i * 5+1+q / 32) % (m+1)) (q / 32):=by unfold eE l9;rfl
   rw[e];exact h⟩
 |mo+1,x,ho=>.inr ⟨ho 0 (by omega),by
   have e1:(tM m).advance ⟨x,mo+1,i,q,none⟩=⟨x+1,mo,i,q,none⟩:=by unfold eE;rw[ah (df mo)];rfl
   rw[e1];exact EY h mo (x+1) λk hk=>by rw[show x+1+k=x+(k+1) by omega];exact ho _ (by omega)⟩
abbrev Oo(m:Nat)(ow:Array (Option Nat))(x:Nat):Prop:=x<=m/\¬Nn ow x
theorem Mh(hi:i<=m):i<=bT m i/\bT m i<=m/\bT m i<=i+9:=by unfold bT;split<;>omega
theorem B3{f q:Nat}(hi:i<=m):(∃k,k<=bT m i - i/\Nn ow (i+k)/\(∀k',k'<k->¬Nn ow (i+k'))/\cI m ow (f+1) i q=some (i+k))\/
  ((∀k,k<=bT m i - i->¬Nn ow (i+k))/\cI m ow (f+1) i q=cI m ow f ((i * 5+1+q / 32) % (m+1)) (q / 32)):=by
 have ef:cI m ow (f+1) i q=match (aT (bT m i+1 - i)).find? λk=>(ow.getD (i+k) (some 0)).isNone with
  |some k=>some (i+k)
  |none=>cI m ow f ((i * 5+1+q / 32) % (m+1)) (q / 32):=rfl
 have rm:=Mh hi;rw[ef];cases e:(aT (bT m i+1 - i)).find? λk=>(ow.getD (i+k) (some 0)).isNone with
 |some k=>
  obtain⟨h1,a,b,h2,h3⟩:=List.find?_eq_some_iff_append.mp e;have hl:a.length=k/\∀x,x<k->x∈a:=by
   have ek:(aT (bT m i+1 - i))[a.length]?=some k:=by rw[h2];simp
   obtain⟨z1,z2⟩:=br.mp ek;rw[List.getElem_range]at z2;refine⟨z2,λx hx=>?_⟩;have ex:(aT (bT m i+1 - i))[x]?=some x:=by rw[iy];rw[bK]at z1;omega
   rw[h2,cY (by omega)]at ex;exact bF ex
  have hk:k∈aT (bT m i+1 - i):=List.mem_of_find?_eq_some e;rw[bN]at hk;have h5:∀k',k'<k->¬Nn ow (i+k'):=λk' hk' z=>by have:=h3 k' (hl.2 k' hk');unfold Nn at z;rw[z]at this;cases this
  exact .inl ⟨k,by omega,h1,h5,rfl⟩
 |none=>refine .inr ⟨λk hk h=>?_,rfl⟩;have:=List.find?_eq_none.mp e k (bN.mpr (by omega));exact this h
theorem A7{r:Nat}(hr:Nn ow r):∀(k f i:Nat),k<=f->i<=m->r∈orb m k i->∃j,cI m ow f i 0=some j
 |0,f,i,_,_,h=>by cases h
 |k+1,0,i,hf,_,_=>ao hf (by omega)
 |k+1,f+1,i,hf,hi,h=>by
  rcases B3 (ow:=ow) (f:=f) (q:=0) hi with ⟨k',_,_,_,e⟩|⟨h1,h2⟩
  ·exact⟨_,e⟩
  ·rcases aP.mp h with e|h
   ·exact ao (e▸hr) (h1 0 (cb _))
   ·rw[h2];exact A7 hr k f _ (by omega) (dU (ee _ (df m))) h
theorem EZ(hm:Mm m){r:Nat}(hr:Nn ow r)(h32:r<=m):∀(k f i q:Nat),k+(m+1)<=f->i<=m->q<32 ^ k->∃j,cI m ow f i q=some j
 |0,f,i,q,hf,hi,hq=>by
  have q0:q=0:=by simpa using hq
  rw[q0];exact A7 hr (m+1) f i (by omega) hi (IQ hm hi h32)
 |k+1,0,i,q,hf,_,_=>ao hf (by omega)
 |k+1,f+1,i,q,hf,hi,hq=>by
  rcases B3 (ow:=ow) (f:=f) (q:=q) hi with ⟨k',_,_,_,e⟩|⟨_,h2⟩
  ·exact⟨_,e⟩
  ·rw[h2];exact EZ hm hr h32 k f _ _ (by omega) (dU (ee _ (df m))) (by rw[mr]at hq;omega)
theorem E1:∀(f i q:Nat),i<=m->cI m ow f i q=some j->Nn ow j/\Wy m (Oo m ow) j (10 * f) (rs m i q)
 |0,i,q,_,e=>by cases e
 |f+1,i,q,hi,e=>by
  have rm:=Mh hi;rcases B3 (ow:=ow) (f:=f) (q:=q) hi with ⟨k,h1,h2,h3,h4⟩|⟨h1,h2⟩
  ·rw[h4]at e;cases e;exact⟨h2,(IR k _ i h1 (λk' hk=>⟨by omega,h3 k' hk⟩) rfl).mono (λ_ h=>h) (by omega)⟩
  ·rw[h2]at e;obtain⟨h3,h4⟩:=E1 f _ _ (dU (ee _ (df m))) e;exact⟨h3,(EY h4 (bT m i - i) i λk hk=>⟨by omega,h1 k hk⟩).mono (λ_ h=>h) (by omega)⟩
def lvm(m:Nat)(ow:Array (Option Nat)):List (Nat×Nat):=(aT (m+1)).filterMap λj=>(ow.getD j none).map (j,·)
theorem PM(hs:ow.size=m+1){j:Nat}(h:Nn ow j):j<m+1/\ow.getD j none=none:=by
 unfold Nn at h;by_cases hj:j<ow.size
 ·refine⟨by omega,?_⟩;rw[dN,du hj]at h ⊢;simpa using h
 ·rw[dN,Array.getElem?_eq_none (by omega)]at h;cases h
theorem IS(hs:ow.size=m+1){j:Nat}(hj:j<=m)(e:ow.getD j none=none):Nn ow j:=by unfold Nn;rw[dN,du (by omega)]at e ⊢;simpa using e
theorem E2{k:Nat}(hj:j<ow.size)(i:Nat):(ow.setIfInBounds j (some k)).getD i none=if i=j then some k else ow.getD i none:=by
 rw[dN,dN,Array.getElem?_setIfInBounds];by_cases hi:j=i
 ·subst hi;rw[ah rfl,ah (by omega),ah rfl];rfl
 ·rw[ai hi,ai (λe=>hi e.symm)]
theorem Ln(hs:ow.size=m+1){k:Nat}(h:Nn ow j):(lvm m (ow.setIfInBounds j (some k))).Perm ((j,k)::lvm m ow):=by
 obtain⟨hj,e⟩:=PM hs h;have get:=E2 (ow:=ow) (k:=k) (j:=j) (by omega);obtain⟨a,b,sp⟩:=List.append_of_mem (bN.mpr hj);have nd:(aT (m+1)).Nodup:=lg;rw[sp,bR,dD]at nd;unfold lvm;rw[sp,ir,ir,cJ,cJ,get j,ah rfl,e];have eq:∀l:List Nat,j∉l->l.filterMap (λi=>((ow.setIfInBounds j (some k)).getD i none).map (i,·))=l.filterMap λi=>(ow.getD i none).map (i,·):=λl hl=>by
  induction l with
  |nil=>rfl
  |cons i l ih=>rw[cJ,cJ,ih λz=>hl (aH _ z),get i,ai λe=>hl (by rw[<-e];exact aG)]
 rw[eq a λz=>nd.2.2 j z j aG rfl,eq b nd.2.1.1];exact List.perm_middle
theorem IT(hs:ow.size=m+1)(hl:(lvm m ow).length<=m):∃r,r<=m/\Nn ow r:=by
 apply jG;intro no;have:∀l:List Nat,(∀j∈l,j<=m)->(l.filterMap λj=>(ow.getD j none).map (j,·)).length=l.length:=λl hl=>by
  induction l with
  |nil=>rfl
  |cons j l ih=>
   have hj:=hl j aG;cases e:ow.getD j none with
   |none=>exact ao ⟨j,hj,IS hs hj e⟩ no
   |some x=>rw[cJ,e];show (List.filterMap _ l).length+1=l.length+1;rw[ih λz hz=>hl z (aH _ hz)]
 have:=this (aT (m+1)) λj hj=>by have:=bN.mp hj;omega
 unfold lvm at hl;rw[this,bK]at hl;omega
def Lw(m:Nat)(ow:Array (Option Nat))(hs:List Int):Prop:=∀j k,j<=m->ow.getD j none=some k->∃h,hs[k]?=some h/\Wy m (Oo m ow) j (10 * bE m) ((tM m).probeStart h)
theorem Mi(hm:Mm m):∀(hs pre:List Int) (ow:Array (Option Nat)),ow.size=m+1->((lvm m ow).map fT).Perm (aT pre.length)->Lw m ow pre->pre.length+hs.length<=m->∃ow',ow'.size=m+1/\((lvm m ow').map fT).Perm (aT (pre.length+hs.length))/\Lw m ow' (pre++hs)/\
  (hs.foldl (λacc h=>do
   let (owner,k)<-acc;let j<-cI m owner (bE m) (cf h % (m+1)) (cf h)
   pure (owner.setIfInBounds j (some k),k+1)) (some (ow,pre.length)))=some (ow',pre.length+hs.length)
 |[],pre,ow,h1,h2,h4,_=>⟨ow,h1,h2,by rw[bH];exact h4,rfl⟩
 |h::hs,pre,ow,h1,h2,h4,h3=>by
  rw[aA]at h3;have ll:=h2.length_eq;rw[ag,bK]at ll;obtain⟨r,hr,nr⟩:=IT h1 (by omega);have mo:cf h % (m+1)<=m:=dU (ee _ (df m));obtain⟨j,ej⟩:=EZ hm nr hr 13 (bE m) (cf h % (m+1)) (cf h) (by unfold bE;omega) mo (EX h);obtain⟨nj,wj⟩:=E1 _ _ _ mo ej;have jl:=(PM h1 nj).1;have get:=E2 (ow:=ow) (k:=pre.length) (j:=j) (by omega);have up:∀x,Oo m ow x->Oo m (ow.setIfInBounds j (some pre.length)) x:=λx hx=>⟨hx.1,λz=>by
   have:=(PM (m:=m) (by rw[jJ];exact h1) z).2;rw[get x]at this;split at this
   ·cases this
   ·exact hx.2 (IS h1 hx.1 this)⟩
  obtain⟨ow',q1,q2,q4,q3⟩:=Mi hm hs (pre++[h]) (ow.setIfInBounds j (some pre.length)) (by rw[jJ];exact h1) (by
   refine((Ln h1 nj).map fT).trans ?_;rw[aF,au,bf,List.range_succ];exact((List.Perm.cons _ h2).trans (ia _ _).symm)) (λx k hx e=>by
    rw[get x]at e;split at e
    ·rename_i ex;cases e;subst ex;exact⟨h,by rw[dr (aC _),gQ];rfl,wj.mono up (aC _)⟩
    ·obtain⟨h',e1,w⟩:=h4 x k hx e;exact⟨h',by rw[cY (br.mp e1).1];exact e1,w.mono up (aC _)⟩) (by rw[au,bf];omega)
  rw[au,bf]at q2 q3;refine⟨ow',q1,by rw[aA,show pre.length+(hs.length+1)=pre.length+1+hs.length by omega];exact q2,by rw[bJ]at q4;exact q4,?_⟩;rw[cA,aA,show pre.length+(hs.length+1)=pre.length+1+hs.length by omega,<- q3];congr 1;show (cI m ow (bE m) (cf h % (m+1)) (cf h)).bind _=_;rw[ej];rfl
theorem PN{fg mv:Nat}{pl:Bool}(hm:Mm m)(hs:Array Int)(hn:hs.size<=m):∃t order,md m fg mv led pl hs=some (t,order)/\Tu t m hs.size/\t.led=led/\t.plain=pl/\order.toList.Perm (aT hs.size)/\
  ∀(i j k:Nat),t.place[i]?=some j->order[i]?=some k->∃h,hs[k]?=some h/\Wy m (Oc t) j (10 * bE m) ((tM m).probeStart h):=by
 have no:∀j,(iY (m+1) (none:Option Nat)).getD j none=none:=λj=>by rw[dN,Array.getElem?_replicate];split<;>rfl
 obtain⟨ow,h1,h2,h4,h3⟩:=Mi hm hs.toList [] (iY (m+1) none) (by simp) (by
  have:lvm m (iY (m+1) none)=[]:=by unfold lvm;rw[List.filterMap_eq_nil_iff];intro j hj;rw[no j];rfl
  rw[this];exact .nil) (λj k _ e=>by rw[no j]at e;cases e) (by rw[bP];simpa using hn)
 rw[bg,eJ,bP]at h2 h3;have e:kP m hs=some ow:=by unfold kP;rw[<-Array.foldl_toList];exact aX (Option.map bX) h3
 have mem:∀q∈lvm m ow,q.1<=m/\ow.getD q.1 none=some q.2:=λq hq=>by
  unfold lvm at hq;obtain⟨j,hj,e⟩:=dR.mp hq;cases e2:ow.getD j none with
  |none=>rw[e2]at e;cases e
  |some x=>rw[e2]at e;cases e;exact⟨dU (bN.mp hj),e2⟩
 refine⟨⟨m,((lvm m ow).map (·.1)).toArray,#[],fg,led,mv,pl⟩,((lvm m ow).map (·.2)).toArray,by unfold md;rw[e];rfl,⟨⟨rfl,rfl,?_⟩,?_⟩,rfl,rfl,h2,λi j k ej ek=>?_⟩
 ·have:=h2.length_eq;rw[ag,bK]at this;rw[aR,ag,this]
 ·show List.Pairwise _ ((lvm m ow).map (·.1))
  have sub:∀l:List Nat,((l.filterMap λj=>(ow.getD j none).map (j,·)).map (·.1)).Sublist l:=λl=>by
   induction l with
   |nil=>exact .slnil
   |cons x l ih=>
    rw[cJ];cases ow.getD x none with
    |none=>exact ih.cons x
    |some y=>exact ih.cons_cons x
  exact nL (sub _) List.pairwise_lt_range
 ·rw[iq,aY]at ej ek;obtain⟨q,e1,rfl⟩:=jU.mp ej;rw[e1]at ek;cases ek;obtain⟨m1,m2⟩:=mem q (bF e1);obtain⟨h,g1,g2⟩:=h4 q.1 q.2 m1 m2;refine⟨h,by rw[bM,bO]at g1;exact g1,g2.mono (λx hx=>?_) (aC _)⟩;show x∈(lvm m ow).map (·.1)
  cases e2:ow.getD x none with
  |none=>exact ao (IS h1 hx.1 e2) hx.2
  |some y=>exact aI.mpr ⟨(x,y),dR.mpr ⟨x,bN.mpr (by have:=hx.1;omega),by rw[e2];rfl⟩,rfl⟩
end
theorem Mj{α β:Type}(f:α->Option β):∀(l:List α),(∀k∈l,∃e,f k=some e)->∀i:Nat,(l.filterMap f)[i]?=l[i]?.bind f
 |[],_,i=>rfl
 |a::l,h,i=>by
  obtain⟨e,ea⟩:=h a aG;rw[cJ,ea];cases i with
  |zero=>exact ea.symm
  |succ i=>exact Mj f l (λk hk=>h k (aH _ hk)) i
section
variable{prog:ar}{w:aq}{A:aw}{E:aa->ae->Prop}{s:ae}{L:List (List Key×Addr)}{es:Array (Int×aa)}{t:bq}{m n ep:Nat}{S a2:Addr}{k2:List Key}{o:Obj}{h:Int}
theorem Lo{Q:Unit->ae->Prop}(hc:(t.mask=7/\es.size=5/\m=31)\/(t.mask=31/\es.size=19/\m=127))(ho:s.heap.get? S=some o)(hd:o.data=.set es ep t)(hf:t.fits es.size=true)
  (hQ:∀h' es' t',eK S s.heap h'->h'.get? S=some { o with data:=.set es' (ep+1) t' }->Tu t' m es.size->Lm m t' es'->t'.led=t.led->t'.plain=t.plain->es'.toList.Perm es.toList->Q () { s with heap:=h' }):af (model prog w) A (setRelay S (fL es.size)) Q E s:=by
 have hm:Mm m:=by unfold Mm;omega
 have hg:kG (fL es.size) - 1=m/\¬kG (fL es.size) > 1000:=by rcases hc with ⟨_,e,rfl⟩|⟨_,e,rfl⟩<;>rw[e]<;>decide
 unfold setRelay;refine aj (fF ho hd hf ?_);dsimp only;rw[ai (by rw[cE];omega)];obtain⟨t',order,e1,T,e2,e3,e4,e5⟩:=PN (fg:=t.finger) (mv:=t.movedTo m) (led:=t.led) (pl:=t.plain) hm (es.map (·.1)) (by rw[lR];omega)
 rw[lR]at T e4;have all:∀k∈order.toList,∃e,es[k]?=some e:=λk hk=>⟨es[k]'(bN.mp (e4.mem_iff.mp hk)),du _⟩;have hp:(order.filterMap (es[·]?)).toList.Perm es.toList:=by rw[jX];exact(e4.filterMap _).trans (by rw[filterMap_getElem?_range])
 have er:t.relaid (es.map (·.1)) (fL es.size)=some (t',order):=by unfold SetTable.relaid;rw[hg.1];exact e1
 rw[er];have sz:(order.filterMap (es[·]?)).size=es.size:=by have:=hp.length_eq;rw[bP,bP]at this;exact this
 refine aj ?_;wp_delta;dsimp only;rw[ai (by rw[sz];simp)];refine ay ?_;refine kQ ho hd ?_ (by show (order.filterMap (es[·]?)).size<=aB;rw[sz,cE];omega)
 refine hQ _ _ _ (iB ..) (Ik ho hd) T (λi e j he hj=>?_) e2 e3 hp;rw[<-bO,jX,Mj _ _ all]at he;obtain⟨k,ek,he⟩:=Option.bind_eq_some_iff.mp he;rw[bO]at ek;obtain⟨h,eh,w⟩:=e5 i j k hj ek;rw[Array.getElem?_map,he]at eh;cases eh;exact w
def Cw(m n:Nat)(t:bq)(es:Array (Int×aa)):Prop:=Tu t m n/\Cz2 m n/\Lm m t es
theorem PQ{m n:Nat}(h:Cz2 m n):Mm m/\n<=m/\n+1<=m:=by unfold Cz2 at h;unfold Mm;omega
theorem Sr{m n:Nat}(h:Cz2 m n)(h0:n<63)(h5:(n+1) * 5 >= m * 3):∃m',((m=7/\n+1=5/\m'=31)\/(m=31/\n+1=19/\m'=127))/\Cz2 m' (n+1):=by
 unfold Cz2 at h ⊢;by_cases z:m=7
 ·exact⟨31,by omega⟩
 ·exact⟨127,by omega⟩
theorem Ss{m n:Nat}(h:Cz2 m n)(h0:n<63)(h5:¬(n+1) * 5 >= m * 3):Cz2 m (n+1):=by unfold Cz2 at h ⊢;omega
theorem Ry{x:Str}{Q:Bool->ae->Prop}(hu:A.units<cLine)(C:Cw m n t es)(h60:n<63)(hf:t.fits es.size=true)(l:Eh prog w s.heap L es)(t2:TK prog w s.heap (Sum.inr x::k2) a2)
  (ho:s.heap.get? S=some o) (hd:o.data=.set es ep t) (hT:(Sum.inr x::k2)∈L.map bX->Q false s)
  (hQ:(Sum.inr x::k2)∉L.map bX->∀h' es' t' ep' m',eK S s.heap h'->h'.get? S=some { o with data:=.set es' ep' t' }->Cw m' (n+1) t' es'->t'.led=t.led->t'.plain=false->es'.toList.Perm ((tupleKeyHash (o7 prog w) (Sum.inr x::k2),.ref a2)::es.toList)->Q true { s with heap:=h' }):
  af (model prog w) A (setAddHashed S (.ref a2) (tupleKeyHash (o7 prog w) (Sum.inr x::k2))) Q E s:=by
 obtain⟨T,hc,W⟩:=C;have hm:Mm m:=(PQ hc).1;have sz:es.size=n:=by unfold fM at hf;rw[aE,beq_iff_eq,T.pl]at hf;exact hf.1.symm
 unfold setAddHashed setAddHashedIn;refine cp (aj (fF ho hd hf ?_));dsimp only;rw[ai (by simp[byScan,Value.scannable])];have nm:n<=m:=(PQ hc).2.1;by_cases ne:(Sum.inr x::k2)∈L.map bX
 ·refine aj (IM hu T hm.odd hf l W t2 ho hd ne ?_);exact ay (hT ne)
 generalize hh:tupleKeyHash (o7 prog w) (Sum.inr x::k2)=h at hQ ⊢;refine aj (IP hu T hm.odd hf l t2 ho hd ne (Emp.st T.toTb hm nm h) λj hj wj=>?_);dsimp only;refine aj (fF ho hd hf ?_);dsimp only;have p1:(t.put j).1.mask=m:=T.mask;have p2:(t.put j).1.dummies=#[]:=by show (if mn t.dummies j then _ else t.dummies)=_;rw[T.dm];rfl
 have bl:=(Ae T.up j).1;have p3:(t.put j).1.place.size=n+1:=by have:=(il t.place (bw t.place j) j).length_eq;rw[bP,bP,Array.size_push,T.pl]at this;exact this
 have p4:(b9 es (t.put j).2 (h,Value.ref a2)).toList.Perm ((h,.ref a2)::es.toList):=by refine(il es _ _).trans ?_;rw[kR];exact ia _ _
 have p5:(b9 es (t.put j).2 (h,Value.ref a2)).size=n+1:=by have:=p4.length_eq;rw[bP,aA,bP,sz]at this;exact this
 let t1:bq:={ (t.put j).1 with plain:=false };have T1:Tu t1 m (n+1):=⟨⟨p1,p2,p3⟩,PJ T.up (T.emp hj)⟩;have up:∀x,Oc t x->Oc t1 x:=λx hx=>by show x∈(b9 t.place (bw t.place j) j).toList;rw[(il _ _ _).mem_iff,kR];exact bI _ hx
 have W1:Lm m t1 (b9 es (t.put j).2 (h,Value.ref a2)):=λi e r he hr=>by
  have he:(b9 es (bw t.place j) (h,Value.ref a2))[i]?=some e:=he;have hr:(b9 t.place (bw t.place j) j)[i]?=some r:=hr;rw[uR _ (by rw[sz,<- T.pl];exact bl)]at he;rw[uR _ bl]at hr;by_cases c1:i<bw t.place j
  ·rw[ah c1]at he hr;exact(W i e r he hr).mono up (aC _)
  ·rw[ai c1]at he hr;by_cases c2:i=bw t.place j
   ·rw[ah c2]at he hr;cases he;cases hr;exact wj.mono up (aC _)
   ·rw[ai c2]at he hr;exact(W (i - 1) e r he hr).mono up (aC _)
 have f1:t1.fits (b9 es (t.put j).2 (h,Value.ref a2)).size=true:=by unfold fM i9;rw[p5,T1.pl,T1.dm,T1.mask,aE];exact⟨by simp,aO (by have:=(PQ hc).2.2;simp;first|exact this|omega)⟩
 have fin:∀t0:bq,t0=t1->af (model prog w) A (do
   storeSet S (b9 es (t.put j).2 (h,.ref a2)) t0
   if (!false&&t0.tooFull)=true then do setRelay S (fL (es.size+1));pure true else pure true) Q E s:=λt0 e=>by
  subst e;refine aj (kQ ho hd ?_ (by rw[p5,cE];omega));have g1:=Ik (es':=b9 es (t.put j).2 (h,Value.ref a2)) (t':=t1) ho hd;have tf:t1.tooFull=decide ((n+1) * 5 >= m * 3):=by unfold SetTable.tooFull i9;rw[T1.pl,T1.dm,T1.mask];rfl
  rw[tf];by_cases h5:(n+1) * 5 >= m * 3
  ·rw[aO h5,ah (by decide),sz,<- p5];obtain⟨m',hm',hz⟩:=Sr hc h60 h5;refine aj (Lo (m:=m') (s:={ s with heap:=s.heap.update S (jy (b9 es (t.put j).2 (h,.ref a2)) t1) }) (by rw[p5,T1.mask];exact hm') g1 rfl f1 λh' es' t' b1 b2 b3 b3' b4 b5 b6=>?_);rw[p5]at b3;exact ay (hQ ne h' es' t' _ m' ((iB ..).trans b1) b2 ⟨b3,hz,b3'⟩ b4 b5 (b6.trans p4))
  ·rw[aU h5,ai (by decide)];exact ay (hQ ne _ _ _ _ m (iB ..) g1 ⟨T1,Ss hc h60 h5,W1⟩ rfl rfl p4)
 split
 ·refine aj (IK t2 ?_);exact fin _ rfl
 ·rename_i hp;refine aj (ay (fin _ ?_));rw[lb]at hp;rw[ah rfl];show (t.put j).1={ (t.put j).1 with plain:=false };rw[<-hp]
end
section
variable{κ α:Type}[DecidableEq κ]
def ust(acc:List (κ×α))(q:κ×α):List (κ×α):=if q.1∈acc.map bX then acc else acc++[q]
def uqP(l:List (κ×α)):List (κ×α):=l.foldl ust []
def uqK(l:List κ):List κ:=l.foldl (λacc k=>if k∈acc then acc else acc++[k]) []
theorem B4(acc:List (κ×α)):∀l:List (κ×α),∃r,l.foldl ust acc=acc++r/\∀q∈r,q∈l
 |[]=>⟨[],(bH _).symm,λq hq=>by cases hq⟩
 |q::l=>by
  obtain⟨r,e,h⟩:=B4 (ust acc q) l;rw[cA,e];unfold ust;split
  ·exact⟨r,rfl,λq hq=>aH _ (h q hq)⟩
  ·refine⟨q::r,by rw[bJ];rfl,λx hx=>?_⟩;rcases aP.mp hx with rfl|hx
   ·exact aG
   ·exact aH _ (h x hx)
theorem IU(l:List (κ×α))(q:κ×α):uqP (l++[q])=ust (uqP l) q:=by unfold uqP;rw[iN];rfl
theorem E3(l:List (κ×α))(i:Nat):(uqP (l.take i)).length<=(uqP l).length:=by
 have e:uqP l=(l.drop i).foldl ust (uqP (l.take i)):=by unfold uqP;rw[<-iN,j4]
 obtain⟨r,h,_⟩:=B4 (uqP (l.take i)) (l.drop i);rw[e,h,au];omega
theorem Lp{l:List (κ×α)}{q:κ×α}(h:q∈uqP l):q∈l:=by obtain⟨r,e,h'⟩:=B4 ([]:List (κ×α)) l;unfold uqP at h;rw[e]at h;exact h' q h
theorem Lq{κ':Type}[DecidableEq κ']{g:κ->κ'}(hg:∀a b,g a=g b->a=b)(l:List (κ×α)):uqP (l.map λq=>(g q.1,q.2))=(uqP l).map λq=>(g q.1,q.2):=by
 have:∀(l acc:List (κ×α)),(l.map λq=>(g q.1,q.2)).foldl ust (acc.map λq=>(g q.1,q.2))=(l.foldl ust acc).map λq=>(g q.1,q.2):=λl=>by
  induction l with
  |nil=>intro acc;rfl
  |cons q l ih=>
   intro acc;rw[aF,cA,cA,<- ih];congr 1;unfold ust;have:g q.1∈(acc.map λq=>(g q.1,q.2)).map bX ↔ q.1∈acc.map bX:=by rw[bx,aI,aI];exact⟨λ⟨a,h1,h2⟩=>⟨a,h1,hg _ _ h2⟩,λ⟨a,h1,h2⟩=>⟨a,h1,aX g h2⟩⟩
   by_cases hk:q.1∈acc.map bX
   ·rw[ah hk,ah (this.mpr hk)]
   ·rw[ai hk,ai λz=>hk (this.mp z),bj];rfl
 exact this l []
end
structure Lr(prog:ar)(w:aq)(h:Heap)(S:Addr)(L:List (List Key×Addr))(led:Bool)(n:Nat)(o:Obj)(es:Array (Int×aa))(ep:Nat)(t:bq):Prop extends AL h S L led n o es ep t where
 cw:∃m,Cw m n t es
 pe:es.toList.Perm (L.map (hkE prog w))
section
variable{prog:ar}{w:aq}{A:aw}{R:cW->ae->Prop}{I:Addr}{fp wr:List Addr}{GG:Array eA->Array eA->Prop}{n:Nat}{PP:Nat->aa->Prop}{SS:Nat->ae->Prop}
theorem Gh(W:WalksS prog w A.in1 I fp wr GG n PP SS){S:Addr}(hSf:S∉fp)(hu:A.in1.units<cLine)(L:List (List Key×Addr))(hn:L.length=n)(h8:(uqP L).length<63)(hk:∀q∈L,∃x k,q.1=Sum.inr x::k)(far:∀q∈L,q.2∉S::wr)
  (hval:∀i v,PP i v->∃q,L[i]?=some q/\v=.ref q.2):∀(k i:Nat) (s:ae) (o:Obj) (es:Array (Int×aa)) (ep:Nat) (t:bq),n - i=k->i<=n->SS i s->(∀q∈L,TK prog w s.heap q.1 q.2)->Lr prog w s.heap S (uqP (L.take i)) led (uqP (L.take i)).length o es ep t->
   (∀s' o es ep t,Moved (S::wr) GG s s'->Lr prog w s'.heap S (uqP L) led (uqP L).length o es ep t->R (.ok (.ret .none)) s')->
   bY (model prog w) A (.builtin "set.update.loop" ⟨[.ref S,.ref I],[]⟩) R s:=by
 have hSw:S∉wr:=λz=>hSf (W.sub _ z);have up:∀b∈wr,b∈S::wr:=λb z=>aH _ z;intro k
 induction k with
 |zero=>
  intro i s o es ep t hk' hi hst tk x hR;obtain rfl:i=n:=by omega
  refine eG f9 ?_;rw[fo dO _];show af _ A.in1 (pyNext (.ref I)>>=_) _ _ s;refine aj (W.done s _ _ hst λs' hm=>?_);show af _ A.in1 (ret Value.none) _ _ s';rw[ik (by omega)]at x;exact ay (hR s' o es ep t (hm.mono up) { x with at_:=hm.heap S _ hSw x.at_ })
 |succ k ih=>
  intro i s o es ep t hk' hi hst tk x hR;have hlt:i<n:=by omega
  refine eG f9 ?_;rw[fo dO _];show af _ A.in1 (pyNext (.ref I)>>=_) _ _ s;refine aj (W.item i s _ _ hlt hst λv s' hP hst' hm=>?_);obtain⟨q,eq,rfl⟩:=hval i v hP;have mq:q∈L:=bF eq;have tk':∀q∈L,TK prog w s'.heap q.1 q.2:=λq hq=>(tk q hq).kept λo=>hm.heap q.2 o λz=>far q hq (up _ z);show af _ A.in1 (holding _ (setAdd S _)>>=_) _ _ s';refine aj (cp ?_);unfold setAdd;refine cp ?_;refine aj (wpAny_pyHash_tuple hu (tk' q mq) ?_);obtain⟨m,C⟩:=x.cw;obtain⟨z,kk,ez⟩:=hk q mq;have tq:TK prog w s'.heap (Sum.inr z::kk) q.2:=by rw[<-ez];exact tk' q mq
  have split:uqP (L.take (i+1))=ust (uqP (L.take i)) q:=by rw[kM,eq];exact IU _ _
  have sub:∀r∈uqP (L.take i),r∈L:=λr hr=>(kI _ _).subset (Lp hr);have x':Lr prog w s'.heap S (uqP (L.take i)) led (uqP (L.take i)).length o es ep t:={ x with at_:=hm.heap S _ hSw x.at_ };have ul:=E3 L i;have ul1:=E3 L (i+1);rw[ez];refine Ry (s:={ s' with toks:=s'.toks+((Sum.inr z::kk:List Key).length+1) }) (L:=uqP (L.take i)) hu C (by omega) (AL.fits ⟨x'.at_,x'.ex,x'.d,x'.c,x'.led,x'.pl,x'.p⟩ rfl) ⟨λr hr=>tk' r (sub r hr),x'.pe⟩ tq x'.at_ x'.d (λinn=>?_) λnin h' es' t' ep' m' b1 b2 b3 b5 b6 b7=>?_
  ·rw[<-ez]at inn;have e:uqP (L.take (i+1))=uqP (L.take i):=by rw[split];unfold ust;rw[ah inn]
   refine ay ⟨gE dO _,ih (i+1) _ o es ep t (by omega) hlt (W.frame _ s' s'.heap _ hst' (gv _ _) λb z o e=>e) tk' (by rw[e];exact x') λs'' o2 es2 ep2 t2 hm'' x2=>?_⟩;exact hR s'' o2 es2 ep2 t2 (js W.gtrans ((hm.mono up).then_heap (gv _ _) λb o z e=>e) hm'') x2
  rw[<-ez]at nin;have e:uqP (L.take (i+1))=uqP (L.take i)++[q]:=by rw[split];unfold ust;rw[ai nin]
  have y:Lr prog w h' S (uqP (L.take (i+1))) led (uqP (L.take (i+1))).length { o with data:=.set es' ep' t' } es' ep' t':=by
   have pe:es'.toList.Perm ((uqP (L.take (i+1))).map (hkE prog w)):=by rw[e,bj];refine b7.trans (.trans ?_ (ia _ _).symm);rw[show hkE prog w q=(tupleKeyHash (o7 prog w) (Sum.inr z::kk),.ref q.2) by unfold hkE;rw[ez]];exact List.Perm.cons _ x.pe
   have hl:(uqP (L.take (i+1))).length=(uqP (L.take i)).length+1:=by rw[e,au];rfl
   rw[hl];exact⟨⟨b2,x.ex,rfl,⟨m',b3.1.toTb,b3.2.1⟩,b5.trans x.led,λ_=>b6,by have:=pe.map fT;rw[bx]at this;exact this⟩,⟨m',b3⟩,pe⟩
  refine ay ⟨gE dO _,ih (i+1) _ _ _ _ _ (by omega) hlt (W.frame _ s' h' _ hst' (gv _ _) λb z o e=>?_) (λr hr=>(tk' r hr).kept λo e=>?_) y λs'' o2 es2 ep2 t2 hm'' x2=>?_⟩
  ·rw[b1.2 b (λy:b=S=>hSf (by rw[<-y];exact z))];exact e
  ·rw[b1.2 r.2 (λy:r.2=S=>far r hr (by rw[y];exact aG))];exact e
  ·refine hR s'' o2 es2 ep2 t2 (js W.gtrans ((hm.mono up).then_heap (gv _ _) λb o z e=>?_) hm'') x2;rw[b1.2 b (λy:b=S=>z (by rw[y];exact aG))];exact e
end
end L4
namespace L4
open PySem PySem.Spec PySem.Calls PyProof.Rows PySem.W L2 L3
variable{a:Addr}
section
variable{X:Cx}{G:Bg}{H:Hp}{pins:List (Addr×Obj)}{σ:St}{s:ae}
theorem Ml(L:List (List Str×Addr)):uqP (L.map λq=>(TkS q.1,q.2))=(uqP L).map λq=>(TkS q.1,q.2):=Lq (g:=TkS) (λa b h=>(List.map_inj_right λ_ _ h=>gR h).mp h) L
theorem IV{prog:ar}{w:aq}{A:aw}{ax:Addr}{its:List aa}{L:List (List Str×Addr)}{led:Bool}{itO:Obj}{SS:Nat->Heap->Prop}(hlt:ax<s.heap.objs.size)(ht:∀q∈L,∃p r,q.1=[p,r])(tk:∀q∈L,TK prog w s.heap (TkS q.1) q.2)
  (ev:∀(i:Nat) (v:aa),its[i]?=some v->∃q,L[i]?=some q/\v=.ref q.2) (li:L.length=its.length) (h8:(uqP L).length<63) (hu:A.in1.units<cLine)
  (W:Walks prog w A.in1 (s.heap.objs.size+1) [s.heap.objs.size+1,ax] [s.heap.objs.size+1] its.toArray.size (λi v=>its.toArray[i]?=some v) SS) (st:SS 0 ((s.heap.push (uf led)).push itO)) {R:cW->ae->Prop}
  (hR:∀h2 k2,(∃o es ep t,AL h2 s.heap.objs.size ((uqP L).map λq=>(TkS q.1,q.2)) led (uqP L).length o es ep t)->(∀b o,b<s.heap.objs.size->s.heap.get? b=some o->h2.get? b=some o)->R (.ok (.ret .none)) { s with heap:=h2,toks:=k2 }) (tk':Nat):
  bY (model prog w) A (.builtin "set.update.loop" ⟨[.ref s.heap.objs.size,.ref (s.heap.objs.size+1)],[]⟩) R { s with heap:=(s.heap.push (uf led)).push itO,toks:=tk' }:=by
 have notin:s.heap.objs.size∉[s.heap.objs.size+1,ax]:=by
  intro z;rcases aP.mp z with z|z
  ·exact ao z (aW (dW _))
  ·exact ao (bb.mp z) (jc hlt)
 have ke:∀{b:Addr} {o':Obj},s.heap.get? b=some o'->((s.heap.push (uf led)).push itO).get? b=some o':=λe=>aM _ (aM _ e);refine Gh (S:=s.heap.objs.size) (led:=led) W.toS notin hu (L.map λq=>(TkS q.1,q.2)) (by rw[ag,aR,li]) (by rw[Ml,ag];exact h8) ?_ ?_ ?_ (its.toArray.size - 0) 0 _ (uf led) #[] 0 (.fresh 0 0 led) rfl (cb _) st ?_ ?_ λs2 o2 es2 ep2 t2 mv S2=>?_
 ·intro q hq;obtain⟨r,hr,rfl⟩:=aI.mp hq;obtain⟨p,z,e⟩:=ht r hr;exact⟨p,[.inr z],by show TkS r.1=_;rw[e];rfl⟩
 ·intro q hq z;obtain⟨r,hr,rfl⟩:=aI.mp hq;obtain⟨ob,_,_,e,_⟩:=tk r hr;have:=aJ e;rcases aP.mp z with z|z
  ·exact ao z (aW this)
  ·exact ao (bb.mp z) (aW (dy this))
 ·intro i v e;rw[iq]at e;obtain⟨q,e1,e2⟩:=ev i v e;exact⟨(TkS q.1,q.2),by rw[aY,e1];rfl,e2⟩
 ·intro q hq;obtain⟨r,hr,rfl⟩:=aI.mp hq;exact(tk r hr).kept λo=>ke
 ·exact⟨⟨aM _ (bB _ rfl),⟨rfl,rfl,rfl⟩,rfl,⟨7,⟨rfl,rfl,rfl⟩,.inl ⟨rfl,cb 4⟩⟩,rfl,λz=>ao z (dE 0),.nil⟩,⟨7,⟨⟨rfl,rfl,rfl⟩,.nil⟩,.inl ⟨rfl,cb 4⟩,λi e j he _=>by cases he⟩,.nil⟩
 ·obtain⟨h2,g2,d2,k2,o2'⟩:=s2;have eg:g2=s.gens:=mv.gens;have ed:d2=s.drawn:=mv.drawn;have eo:o2'=s.os:=mv.os;subst eg ed eo;rw[Ml,ag]at S2;refine hR h2 k2 ⟨o2,es2,ep2,t2,⟨S2.at_,S2.ex,S2.d,S2.c,S2.led,S2.pl,S2.p⟩⟩ λb o hb e=>mv.heap b o (λz=>?_) (ke e);rcases aP.mp z with z|z
  ·exact ao z (aW hb)
  ·exact ao (bb.mp z) (aW (dy hb))
theorem Su{A:aw}{E:aa->ae->Prop}{Q:aa->ae->Prop}{L:List (List Str×Addr)}(I:Inv X pins σ H s)(hh:A.handled=none)(hu:A.units+8<cLine)(hq:SqL X.K H a (L.map λq=>V.ref q.2)\/SqT X.K H a (L.map λq=>V.ref q.2))(h8:(uqP L).length<63)
  (ht:∀q∈L,∃p r,q.1=[p,r]/\SqT X.K H q.2 [.str p,.str r])
  (h:∀h2 k2 o es ep t,AL h2 s.heap.objs.size ((uqP L).map λq=>(TkS q.1,q.2)) (!X.w.params.followText "set-order") (uqP L).length o es ep t->(∀b o,b<s.heap.objs.size->s.heap.get? b=some o->h2.get? b=some o)->Q (.ref s.heap.objs.size) { s with heap:=h2,toks:=k2 }):
  af (model X.prog X.w) A (call (.type "set") [.ref a]) Q E s:=by
 have h3:A.in1.in1.in1.handled=none:=by simp[hh]
 have h4:A.in1.in1.in1.units<cLine:=by show A.units+1+1+1<cLine;omega
 have tk:∀q∈L,TK X.prog X.w s.heap (TkS q.1) q.2:=λq hq=>by obtain⟨p,r,e,h1⟩:=ht q hq;rw[e];exact Rf (ks:=[.inr p,.inr r]) I h1
 have ev:∀{its:List aa},Vals (L.map λq=>V.ref q.2) its->L.length=its.length/\∀(i:Nat) (v:aa),its[i]?=some v->∃q,L[i]?=some q/\v=.ref q.2:=λ{its} r=>by
  have li:L.length=its.length:=by have:=r.length;rw[ag]at this;exact this
  refine⟨li,λi v e=>?_⟩;have hi:i<L.length:=by rw[li];exact(br.mp e).1
  obtain⟨u,e2,ru⟩:=r.get (i:=i) (x:=V.ref L[i].2) (by rw[aY,aQ hi];rfl);rw[e]at e2;cases e2;exact⟨L[i],aQ hi,ru⟩
 have it:∀{o:Obj} {led:Bool},o.isFreed=false->((s.heap.push (uf led)).push o).get? (s.heap.objs.size+1)=some o:=λ{o led} z=>by rw[show s.heap.objs.size+1=(s.heap.push (uf led)).objs.size from(eI _ _).symm];exact bB _ z
 have ht':∀q∈L,∃p r,q.1=[p,r]:=λq hq=>by obtain⟨p,r,e,_⟩:=ht q hq;exact⟨p,r,e⟩
 rcases hq with hq|hq
 ·obtain⟨its,r,pp,_⟩:=I.list hq;obtain⟨o,ho,hc,n,hd⟩:=pp.isList;have hne:a≠s.heap.objs.size+1:=aW (dy (aJ ho));exact xK (PS:=λh2=>∃o es ep t,AL h2 s.heap.objs.size ((uqP L).map λq=>(TkS q.1,q.2)) (!X.w.params.followText "set-order") (uqP L).length o es ep t) ho hc lO j6 (by decide) (itO:={ cls:=.type "list_iterator", data:=.fields #[.ref a,.int 0 0] })
   (λA Q E s1 e k=>fA ⟨o,e,hc,n,hd⟩ k) (λtk' R hR=>IV (aJ ho) ht' tk (ev r).2 (ev r).1 h8 h4 (gZ h3 _ a hne its.toArray) ⟨⟨_,it rfl,rfl,rfl⟩,⟨o,aM _ (aM _ ho),hc,n,hd⟩⟩ hR tk') λh2 k2 ⟨o,es,ep,t,x⟩ kk=>h h2 k2 o es ep t x kk
 ·obtain⟨its,r,p,_⟩:=I.tuple hq;obtain⟨o,ho,hc,n,hd⟩:=p;have hne:a≠s.heap.objs.size+1:=aW (dy (aJ ho));exact xK (PS:=λh2=>∃o es ep t,AL h2 s.heap.objs.size ((uqP L).map λq=>(TkS q.1,q.2)) (!X.w.params.followText "set-order") (uqP L).length o es ep t) ho hc sub_tuple_set sub_tuple_frozenset (by decide) (itO:={ cls:=.type "tuple_iterator", data:=.fields #[.ref a,.int 0 0] })
   (λA Q E s1 e k=>iE ⟨o,e,hc,n,hd⟩ k) (λtk' R hR=>IV (aJ ho) ht' tk (ev r).2 (ev r).1 h8 h4 (mG h3 _ a hne its.toArray) ⟨⟨_,it rfl,rfl,rfl⟩,⟨o,aM _ (aM _ ho),hc,n,hd⟩⟩ hR tk') λh2 k2 ⟨o,es,ep,t,x⟩ kk=>h h2 k2 o es ep t x kk
end
section
variable{prog:ar}{w:aq}{A:aw}{E:aa->ae->Prop}{s:ae}
theorem Gi{Q:Int->ae->Prop}(h:Q 0xFCA86420 { s with toks:=s.toks+1 }):af (model prog w) A (pyHash .none) Q E s:=by
 show af _ _ (pyHashByItsType .none) Q E s;unfold pyHashByItsType;refine aj ?_;rw[cRoomFor,ai (by rw[show [Value.none].any Value.onHeap=false from rfl];exact ba)];refine ay ?_;refine aj (gx (gU s) gh.lookup ?_);show af _ _ (if (some (Value.builtin "NoneType.__hash__")==some Value.none)=true then _ else _) Q E s;rw[ai (by rw[beq_builtin_none];exact ba)];refine aj (gx (gU s) gh.lookup ?_);show af _ _ (callSpecialIfBoundUnlessNone? .none "__hash__" _>>=_) Q E s;refine aj (wpAny_callSpecialIfBoundUnlessNone?_slot (gU s) gh
  (iU gh (gU s) F.entry_NoneType_hash
   (show af _ _ (do ret (<-mkInt 0xFCA86420)) _ _ s from wpAny_ret_mkInt ?_) (F.args_NoneType_hash_1 _)))
 exact ay h
theorem Ls{Q:Bool->ae->Prop}(h:Q true s):af (model prog w) A (eqBool .none .none) Q E s:=by unfold eqBool;refine cp ?_;rw[ah (show (Value.none==Value.none)=true from rfl)];exact aj (wpAny_rule (ay h))
def oIs:Option Key->aa->Bool
 |none,.none=>true
 |none,_=>false
 |some k,v=>zr k v
theorem tm{k:Option Key}{v:aa}(h:oIs k v=true):(k=none/\v=.none)\/(∃i t,k=some (Sum.inl i)/\v=Value.int i t)\/∃x t,k=some (Sum.inr x)/\v=Value.str x t:=by
 cases k with
 |none=>cases v<;>first|exact .inl ⟨rfl,rfl⟩|cases h
 |some k=>
  rcases pN (k:=k) h with ⟨i,t,rfl,rfl⟩|⟨x,t,rfl,rfl⟩
  ·exact .inr (.inl ⟨i,t,rfl,rfl⟩)
  ·exact .inr (.inr ⟨x,t,rfl,rfl⟩)
def optKind(prog:ar)(w:aq):lX prog w (Option Key) where
 is:=oIs
 hash:=λk=>match k with|none=>0xFCA86420|some k=>Qg w k
 inj:=λv a b ha hb=>by rcases tm ha with ⟨rfl,rfl⟩|⟨i,t,rfl,rfl⟩|⟨x,t,rfl,rfl⟩<;>rcases tm hb with ⟨rfl,e⟩|⟨j,u,rfl,e⟩|⟨y,u,rfl,e⟩<;>first|rfl|(cases e;rfl)|cases e
 byValue:=λk v h=>by rcases tm h with ⟨rfl,rfl⟩|⟨i,t,rfl,rfl⟩|⟨x,t,rfl,rfl⟩<;>rfl
 pyHash:=λ{A E s k v Q} hv h=>by
  cases k with
  |some k=>exact(o7 prog w).pyHash (k:=k) hv h
  |none=>
   rcases tm hv with ⟨_,rfl⟩|⟨i,t,e,_⟩|⟨x,t,e,_⟩
   ·exact Gi h
   ·cases e
   ·cases e
 eqBool:=λ{A E s a b u v Q} hu hv h=>by
  rcases tm hu with ⟨rfl,rfl⟩|⟨i,t,rfl,rfl⟩|⟨x,t,rfl,rfl⟩<;>rcases tm hv with ⟨rfl,rfl⟩|⟨j,u,rfl,rfl⟩|⟨y,u,rfl,rfl⟩
  ·exact Ls h
  ·exact kh j u _ _ _ _ h
  ·exact kl y u _ _ _ _ h
  ·exact km i t _ _ _ _ h
  ·exact(o7 prog w).eqBool (a:=Sum.inl i) (b:=Sum.inl j) hu hv (by simpa using h)
  ·exact(o7 prog w).eqBool (a:=Sum.inl i) (b:=Sum.inr y) hu hv (by simpa using h)
  ·exact kn x t _ _ _ _ h
  ·exact(o7 prog w).eqBool (a:=Sum.inr x) (b:=Sum.inl j) hu hv (by simpa using h)
  ·exact(o7 prog w).eqBool (a:=Sum.inr x) (b:=Sum.inr y) hu hv (by simpa using h)
 «strs»:=λk x t v h=>by
  cases k with
  |none=>cases h
  |some k=>exact(o7 prog w).strs k x t v h
theorem Lu{h:Heap}{f:Key->Option aa}(m:h.MapOf (o7 prog w) a f):h.MapOf (optKind prog w) a (λk=>match k with|none=>none|some k=>f k):=by
 obtain⟨o,es,ep,h1,h2,h3,h4,h5⟩:=m;refine⟨o,es,ep,h1,h2,h3,λe he=>?_,λk=>?_⟩
 ·obtain⟨k,k1,k2⟩:=h4 e he;exact⟨some k,k1,k2⟩
 ·cases k with
  |some k=>exact h5 k
  |none=>
   unfold findBy;rw[Array.find?_eq_none.mpr λe he=>?_]
   ·rfl
   ·obtain⟨k,k1,_⟩:=h4 e he;rcases pN k1 with ⟨i,t,_,e1⟩|⟨x,t,_,e1⟩<;>(rw[e1];exact ba)
end
def tOr(t t':Ty->Option Bool):Ty->Option Bool:=λy=>match t y with
 |some true=>match t' y with
  |some _=>some true
  |none=>none
 |some false=>t' y
 |none=>none
section
variable{X:Cx}{G:Bg}
def rInT(K:ak):R2:=λx y H Q=>∃p xs d l,y=.ref p/\SqL K H p xs/\L3.Rep K H d x/\L3.oN K H l xs/\dpt d<=20/\(∀e∈l,dpt e<=20)/\Q (.bl (l.any λe=>eqD e d)) H
theorem reps_mem{K:ak}{H:Hp}:∀{l:List L3.Dq} {xs:List V} {us:List aa},L3.oN K H l xs->Vals xs us->(∀u∈us,∃e∈l,∃x,L3.Rep K H e x/\RelV x u)/\∀e∈l,∃u∈us,∃x,L3.Rep K H e x/\RelV x u
 |[],xs,us,r,v=>by unfold L3.oN at r;subst r;cases v;exact⟨λu hu=>(by cases hu),λe he=>(by cases he)⟩
 |d::l,xs,us,r,v=>by
  unfold L3.oN at r;obtain⟨x,r',rfl,h1,h2⟩:=r;cases v with
  |cons v1 v2=>
   obtain⟨q1,q2⟩:=reps_mem h2 v2;refine⟨λu hu=>?_,λe he=>?_⟩
   ·rcases aP.mp hu with rfl|hu
    ·exact⟨d,aG,x,h1,v1⟩
    ·obtain⟨e,he,z⟩:=q1 u hu;exact⟨e,aH _ he,z⟩
   ·rcases aP.mp he with rfl|he
    ·exact⟨_,aG,x,h1,v1⟩
    ·obtain⟨u,hu,z⟩:=q2 e he;exact⟨u,aH _ hu,z⟩
theorem op_inT(hu:X.A.units+64<cLine):OpR X (aS .In) (rInT X.K):=by
 intro pins s σ H x y v u Q I rx ry h;obtain⟨p,xs,d,l,rfl,hq,rd,rl,hd,hl,q⟩:=h;cases ry;obtain⟨its,r,pl,hz⟩:=I.list hq;obtain⟨m1,m2⟩:=reps_mem rl r;have ea:∀e∈l,∀z w,L3.Rep X.K H e z->RelV z w->fR X.A.in1 s w v (eqD e d):=λe he z w h1 h2=>Hf I e d z x w v X.A.in1 h1 rd h2 rx (by have:=hl e he;show X.A.units+1+_+_<_;omega);let f:aa->Bool:=λw=>@decide (∃e∈l,∃z,L3.Rep X.K H e z/\RelV z w/\eqD e d=true) (eY _);refine lu f pl.isList (λw hw=>?_) ⟨.bl _,H,I,rfl,?_⟩
 ·by_cases hf:∃e∈l,∃z,L3.Rep X.K H e z/\RelV z w/\eqD e d=true
  ·have ef:f w=true:=@aO _ (eY _) hf;obtain⟨e,he,z,h1,h2,h3⟩:=hf;have:=ea e he z w h1 h2;rw[h3]at this;rw[ef];exact this
  ·have ef:f w=false:=@aU _ (eY _) hf;obtain⟨e,he,z,h1,h2⟩:=m1 w (by simpa using hw);have:=ea e he z w h1 h2;rw[gq.mpr λh3=>hf ⟨e,he,z,h1,h2,h3⟩]at this;rw[ef];exact this
 ·have eq:its.toArray.any f=l.any λe=>eqD e d:=by
   rw[show its.toArray.any f=its.any f by simp];refine bS.mpr ?_;rw[cN,cN];constructor
   ·rintro⟨w,hw,hf⟩;obtain⟨e,he,z,h1,h2,h3⟩:=@bC _ (eY _) hf;exact⟨e,he,h3⟩
   ·rintro⟨e,he,h3⟩;obtain⟨w,hw,z,h1,h2⟩:=m2 e he;exact⟨w,hw,@aO _ (eY _) ⟨e,he,z,h1,h2,h3⟩⟩
  rw[eq];exact q
def dInT:D->D->Option D:=λx y=>match y with
 |.lst ds=>match toD x,vd ds with
  |some d,some l=>if decide (dpt d<=20)&&l.all (λe=>decide (dpt e<=20))then some (.bl (l.any λe=>eqD e d))else none
  |_,_=>none
 |_=>none
theorem od_inT:OpD G (rInT G.K) dInT:=λx y z H0 H v u Q e s rx ry k=>by
 unfold dInT at e;split at e
 ·rename_i ds;cases e1:toD x with
  |none=>simp only[e1]at e;cases e
  |some d=>
   cases e2:vd ds with
   |none=>simp only[e1,e2]at e;cases e
   |some l=>
    simp only[e1,e2]at e;split at e
    ·rename_i hc;cases e;rw[aE,bc,aD]at hc;have ry:=Rep.mono s _ _ ry;unfold Rep at ry;obtain⟨a,xs,rfl,h1,h2⟩:=ry;exact⟨a,xs,d,l,rfl,SqL.of h1,zg x v d (Rep.mono s _ _ rx) e1,xH ds xs l h2 e2,hc.1,λe he=>bC (hc.2 e he),k _ λ_ _=>qp _⟩
    ·cases e
 ·cases e
instance inT2:CmC .In dInT:=⟨λX G h hu=>⟨_,by rw[<-h];exact op_inT hu,od_inT⟩⟩
end
section
variable{X:Cx}{B:Bz}{k i:Nat}{e:Expr}{f:FE}{a:FA}{x:Str}{p p2 p3 pos apos:Pos}
theorem zr_xsI{j:Int}{jj}(h:sees X i x=true)(he:ZE X B e f)(hs:swapsWithSole [.Subscript (.Name x p) (.Constant (.int j) jj p2) p3] e pos.line X.env=pure false)(hw:swappedStores [.Subscript (.Name x p) (.Constant (.int j) jj p2) p3] e X.env=pure none)
  (h1:(cg [.Subscript (.Name x p) (.Constant (.int j) jj p2) p3] X.env).map (·.2)=[assign (.Subscript (.Name x p) (.Constant (.int j) jj p2) p3) X.env]):ZS X B (.Assign [.Subscript (.Name x p) (.Constant (.int j) jj p2) p3] e pos) (ue i j f):=⟨F7 (MR he.p (MQ (pvI h) Do set_list) hs hw h1)⟩
theorem zr_xeI [C:Cz X B k](h:sees X i x=true)(hb:Az X (.Name x p) "extend")(hl:Ez apos pos)(hs:S1 X e)(ha:ZN X B e a):ZE X B (.Call (.Attribute (.Name x p) "extend" apos) [e] [] pos) (KB i a):=
 ⟨FY (bmI hb hl hs fE gm kE FH (pvI h) (rH ha.p uS hs))⟩
end
end L4
namespace L2
open PySem PySem.Spec PyProof.Rows PySem.W
abbrev vErr:List aa:=[.type "ValueError", .type "Exception", .type "BaseException", .type "object"]
def XC(K:ak)(C:Addr):Prop:=excIn K C vErr "ValueError.__new__" = true
theorem XC.obj{K:ak}{C:Addr}{h:Heap}(q:XC K C)(i:K.In h):OwnCls "x" C vErr "ValueError.__new__" (λ_=>some (.ref C)) h:=by
 refine⟨rfl,?_⟩;have q':excIn K C vErr "ValueError.__new__" = true:=q;unfold excIn at q';split at q'
 ·rename_i di dt sl lk;split at q'
  ·rename_i Cc tl a0 a1 a2 a3 nw a5 em es;simp only[aE,beq_iff_eq,bV]at q';obtain⟨⟨⟨⟨⟨h1,h2⟩,h3⟩,h4⟩,h5⟩,h6⟩:=q';cases dt with
   |mk nm bs mro ns qn hd sn sub ab col del=>cases h1;cases h2;have em':mro=_:=em;have hd':del=false:=h3;cases em';cases hd';obtain⟨ll⟩:=sl;have es':ll=_:=es;cases es';exact⟨tl,ns,nm,qn,bs,hd,sn,sub,ab,col,di,a0,a1,a2,a3,a5,_,i _ _ lk,.of_isNs (isNs_of_in i h5),nsMap_none_of_in i h5 h6,tail_of_in i h4⟩
  ·cases q'
 ·cases q'
structure Fly(P:ar)(w:aq)(C:Addr)(l:List Env)(H:Hp)(s:ae)(H':Hp)(a:Addr)(s':ae):Prop where
 ex:∃(B:Heap) (a0:aa),mw B l a (.ref C) a0 s'.heap/\HOk P w H' B/\∀b o,s.heap.get? b=some o->b∉frs l->∃o',B.get? b=some o'
 os:s'.os=s.os
 bare:cU s'.gens
 un:Un (frs l) [] H H' s.heap s'.heap
def CXW(P:ar)(w:aq)(C:Addr):CXT:=λl H s E e s'=>∃a H',e=.ref a/\Fly P w C l H s H' a s'/\E e none H'
theorem un_step{l:List Env}{H H':Hp}{h h1 h2 B:Heap}(kb:∀b o,h.get? b=some o->b∉frs l->∃o',B.get? b=some o')(st:B.StaysIn h1)(st2:B.StaysIn h2)(ff:h1.FunFrames B l)(up:h1.UpToSlots h2)(u:Un (frs l) [] H H' h h1):Un (frs l) [] H H' h h2 where
 keep:=λb o q n hb hx=>by obtain⟨o',e⟩:=kb b o q hb;have e1:=u.keep b o q n hb hx;have e2:=st b o' e;rw[e1]at e2;cases e2;exact st2 b _ e
 slot:=λb o q n hb hx=>by obtain⟨sl,e1⟩:=u.slot b o q n hb hx;obtain⟨_,o1,e2,d⟩:=ff.mem hb;rw[e1]at e2;cases e2;obtain⟨sl',e3⟩:=up b _ e1 d;exact⟨sl',e3⟩
 free:=u.free
 there:=λb o q hx=>by
  by_cases hb:b∈frs l
  ·obtain⟨_,o1,e2,d⟩:=ff.mem hb;obtain⟨sl',e3⟩:=up b _ e2 d;exact⟨_,e3⟩
  ·obtain⟨o',e⟩:=kb b o q hb;exact⟨o',st2 b _ e⟩
 tups:=u.tups
 frzs:=u.frzs
 tbls:=u.tbls
variable{pins:List (Addr×Obj)}{σ:St}{H1:Hp}{s1:ae}
section
variable{P:ar}{w:aq}{K:ak}{mg:Str->Option aa}{base:Heap}{N:List Str}{qual:Str}{scope:bZ}{f C:Addr}{cd:aa}{A:aw}{outer:List Env}{s:ae}{H:Hp}{E:XK}
abbrev cxW(C:Addr)(P:ar)(w:aq)(K:ak)(mg:Str->Option aa)(base:Heap)(N:List Str)(qual:Str)(scope:bZ)(f:Addr)(cd:aa)(A:aw)(outer:List Env)(s:ae)(H:Hp)(E:XK):Cx:=By (CXW P w C) P w K mg base N qual scope f cd A outer s H E
theorem kb_out{B:Heap}(I:Inv (cxW C P w K mg base N qual scope f cd A outer s H E) pins σ H1 s1)(kb:∀b o,s1.heap.get? b=some o->b∉frs (cxW C P w K mg base N qual scope f cd A outer s H E).stack->∃o',B.get? b=some o'):
  ∀b o,s.heap.get? b=some o->b∉frs outer->∃o',B.get? b=some o':=λb o q hb=>by
 obtain⟨o1,e1⟩:=I.base.there b o q (λz=>nomatch z);refine kb b o1 e1 λhm=>?_;rcases aP.mp (I.stkSub b hm)with z|z
 ·exact ao (bQ (aJ q) I.ok.above) (by rw[z];exact dE _)
 ·exact hb z
theorem pass_body:Passes (CXW P w C) (cxW C P w K mg base N qual scope f cd A outer s H E) (λ_ _ H'=>∀e,E e none H'):=λpins σ H1 s1 e s' I h=>by obtain⟨a,H',rfl,fl,z⟩:=h;obtain⟨B,a0,hf,hok,kb⟩:=fl.ex;refine wpAny_leaves_onW I.ok.frames rfl hf λh2 hf2 up=>?_;have u:=un_step kb hf.1 hf2.1 hf.2.2.1 up fl.un;have J:=I.call' (s':={ s' with heap:=h2 }) (ch:=[]) fl.os u (hok.kept hf2.1) fl.bare λ_ z=>nomatch z;exact⟨a,H',rfl,⟨⟨B,a0,hf2,hok,kb_out I kb⟩,J.os,J.bare,J.base⟩,z _⟩
theorem made_body{a:Addr}{vs:List aa}{h':Heap}(I:Inv (cxW C P w K mg base N qual scope f cd A outer s H E) pins σ H1 s1)(hx:lS s1.heap h' a (.ref C) vs)(z:∀e,E e none H1):
  (cxW C P w K mg base N qual scope f cd A outer s H E).xe (.ref a) { s1 with heap:=h' }:=by
 have hin:∀env∈(cxW C P w K mg base N qual scope f cd A outer s H E).stack,∀b,env.frame=some b->b∈frs (cxW C P w K mg base N qual scope f cd A outer s H E).stack:=λenv he b hb=>dR.mpr ⟨env,he,hb⟩;have ff:=funFrames_hide I.stack hin;have kb:∀b o,s1.heap.get? b=some o->b∉frs (cxW C P w K mg base N qual scope f cd A outer s H E).stack->∃o',(hideAll s1.heap (frs (cxW C P w K mg base N qual scope f cd A outer s H E).stack)).get? b=some o':=λb o q n=>⟨o,ji _ q n⟩;have hok:HOk P w H1 (hideAll s1.heap (frs (cxW C P w K mg base N qual scope f cd A outer s H E).stack)):=λb o e=>(I.hok b o e).stay (λc u hc q=>ji _ q λhm=>by
  have n:=I.stkFree c hm;rcases hc with rfl|hc
  ·rw[e]at n;cases n
  ·rw[hc]at n;cases n) (λ_ q=>q) λ_ _ q=>q
 refine wpAny_leaves_madeW (h:=s1.heap) I.ok.frames rfl (λb o q=>jt _ q) ff hx λh2 t hf2 _ _ up=>?_;have u:=un_step kb (λb o q=>hx.keeps b o (jt _ q)) hf2.1 (ff.of_keeps λb o q _=>⟨o,hx.keeps b o q,rfl⟩) up (Un.kept (fs:=frs (cxW C P w K mg base N qual scope f cd A outer s H E).stack) (ex:=[]) (H:=H1) hx.keeps);have J:=I.call' (s':={ s1 with heap:=h2 }) (ch:=[]) rfl u (hok.kept hf2.1) I.bare λ_ z=>nomatch z;exact⟨a,H1,rfl,⟨⟨_,_,hf2,hok,kb_out I kb⟩,J.os,J.bare,J.base⟩,z _⟩
end
def Mades(X:Cx)(C:Addr)(Z:Hp->Prop):Prop:=∀(pins:List (Addr×Obj)) (σ:St) (H:Hp) (s:ae) (a:Addr) (vs:List aa) (h':Heap),Inv X pins σ H s->lS s.heap h' a (.ref C) vs->Z H->X.xe (.ref a) { s with heap:=h' }
section
variable{X:Cx}{C:Addr}{Z:Hp->Prop}{x:Str}{np cpos pos:Pos}{e:Expr}{es:List Expr}{t:TA}
theorem ps_raise(q:XC X.K C)(hc:X.calm=true)(hm:X.mg x=some (.ref C))(mk:Mades X C Z)(ha:PA X (e::es) t)(hg:Gl X x)(hdb:(x==("__debug__" : Str))=false)(he:az (e::es) X.env=(false,eval e X.env)::az es X.env)(hpl:(aZ cpos (az es X.env)).any (·.1)=false):
  PS X (.Raise (some (.Call (.Name x np) (e::es) [] cpos)) none pos) (λ_ σ H=>t σ H λvs H1=>vs.length<=aB/\Z H1):=by
 intro pins s σ H D I h;obtain⟨bm,N,nm,qn,bs,hd,sn,sub,ab,col,dd,k0,k1,k2,k3,k5,mN,hC,hN,hni,T⟩:=(q.obj I.mod.kin).obj;have hb:bm.contains (.type "BaseException")=true:=T.hasType (b:=true) rfl;refine wpAny_Raise_call_subU (nm:=nm) (q:=qn) (N:=N) (bs:=bs) (hdct:=hd) (sn:=sn) (sub:=sub) (ab:=ab) (col:=col) (dd:=dd) (k0:=k0) (k1:=k1) (k2:=k2) (k3:=k3) (k5:=k5) ka rfl ka hb (I.ok.hd hc) (by rw[he];show (false||(aZ cpos (az es X.env)).any (·.1))=false;rw[hpl];rfl) hni (uQ I hg hm ⟨rfl,?_⟩ hdb)
 rw[he];have h2:=ha cpos pins s σ H _ I h;rw[he]at h2;refine iw (thn h2 λus s2 zz=>?_);obtain⟨vs,H2,I2,r,l2,z⟩:=zz;refine⟨rfl,by rw[<-r.length];exact l2,I2.bk _ _ hC,hN.keeps I2.bk,T.keeps I2.bk,λh' a hx=>mk pins σ H2 s2 a us h' I2 hx z⟩
end
abbrev Cx.caught(X:Cx)(v:aa):Cx:={ X with A:=X.A.mark (some v),calm:=false,xe:=λ_ _=>False }
theorem Inv.caught{X:Cx}{H:Hp}{s:ae}(I:Inv X pins σ H s)(v:aa):Inv (X.caught v) pins σ H s:=
 ⟨⟨I.ok.mod,I.ok.kind,I.ok.glob,I.ok.blt,I.ok.above,I.ok.inj,I.ok.has,I.ok.cab,(λz=>by cases z),I.ok.frames,I.ok.stk,I.ok.exf,I.ok.bs,I.ok.bsz,I.ok.noex,I.ok.exfs,I.ok.funs,I.ok.frf⟩,I.os,I.bare,I.base,I.loc,I.cell,I.free,I.freeC,I.pin,I.hok,I.len⟩
variable{fl:Flow}{xe:aa->ae->Prop}
section
variable{X:Cx}{pins:List (Addr×Obj)}{σ:St}{H:Hp}{s:ae}
theorem Inv.uncaught{v:aa}(ok:X.Ok)(I:Inv (X.caught v) pins σ H s):Inv X pins σ H s:=⟨ok,I.os,I.bare,I.base,I.loc,I.cell,I.free,I.freeC,I.pin,I.hok,I.len⟩
theorem SP.uncaught{v:aa}{D:Ends}(ok:X.Ok)(h:SP (X.caught v) pins D fl s):SP X pins D fl s:=by
 cases fl with
 |next=>obtain⟨σ',H',I,q⟩:=h;exact⟨σ',H',I.uncaught ok,q⟩
 |brk=>obtain⟨σ',H',I,q⟩:=h;exact⟨σ',H',I.uncaught ok,q⟩
 |cont=>obtain⟨σ',H',I,q⟩:=h;exact⟨σ',H',I.uncaught ok,q⟩
 |ret u=>obtain⟨v,σ',H',I,r,q⟩:=h;exact⟨v,σ',H',I.uncaught ok,r,q⟩
theorem PA.lift{es:List Expr}{t:TA}(h:PA X es t)(n:∀e s,¬X.xe e s):PA (X.wish xe) es t:=λpos pins s σ H Q I hw=>
 bz (h pos pins s σ H Q I.unwish hw) (λ_ _ ⟨v,H',I',r,q⟩=>⟨v,H',I'.wish xe,r,q⟩) λe s z=>(n e s z).elim
theorem PT.lift{e:Expr}{t:TT}(h:PT X e t)(n:∀e s,¬X.xe e s):PT (X.wish xe) e t:=λpins s σ H Q I hw=>
 bz (h pins s σ H Q I.unwish hw) (λ_ _ ⟨H',I',q⟩=>⟨H',I'.wish xe,q⟩) λe s z=>(n e s z).elim
theorem SP.wish{D:Ends}(xe:aa->ae->Prop)(h:SP X pins D fl s):SP (X.wish xe) pins D fl s:=by
 cases fl with
 |next=>obtain⟨σ',H',I,q⟩:=h;exact⟨σ',H',I.wish xe,q⟩
 |brk=>obtain⟨σ',H',I,q⟩:=h;exact⟨σ',H',I.wish xe,q⟩
 |cont=>obtain⟨σ',H',I,q⟩:=h;exact⟨σ',H',I.wish xe,q⟩
 |ret u=>obtain⟨v,σ',H',I,r,q⟩:=h;exact⟨v,σ',H',I.wish xe,r,q⟩
theorem PS.lift{st:Stmt}{t:TS}(h:PS X st t)(n:∀e s,¬X.xe e s):PS (X.wish xe) st t:=λpins s σ H D I hw=>
 bz (h pins s σ H D I.unwish hw) (λ_ _ q=>q.wish xe) λe s z=>(n e s z).elim
end
section
variable{X:Cx}{CX:CXT}{k:Nat}{f C C0:Addr}{fd:bA}{ps:List Str}{sp:Sp}{dvs:List V}{ds:List aa}{E:XK}{x y:Str}{p np pos pos1 pos2 hp:Pos}{e:Expr}{es:List Expr}{t:TA}{b0:Stmt}{suite:List Stmt}{th:TS}
theorem run_makeX{H:Hp}{s:ae}{Q:VK}{us:List aa}{vs:List V}(M:Mk X.K C0 f)(F:rJ X.prog X.w X.K X.mg X.base CX k f fd ps sp)(hr:qg (k+1) X.A)(hb:Binds X.K fd ps ds)(hd:Vals dvs ds)
  (hx:∀H2 s2 e s',Inv X pins σ H2 s2->CX X.stack H2 s2 E e s'->X.xe e s') (I:Inv X pins σ H s) (r:Vals vs us)
  (h:∀x dx,H x=none->H dx=none->dx≠x->sp (.ref x::(vs++dvs)) (upd (upd H dx (.own x)) x (.ins C0 dx [])) (λv H2=>v=.non/\Q (.ref x) H2) E):
  af (model X.prog X.w) X.A (call (.ref C0) us) (EP X pins σ Q) X.xe s:=by
 have hq:=h (s.heap.objs.size+1) s.heap.objs.size (I.hok.fresh (gS _)) (I.hok.fresh (aC _)) (aW (dW _));have I2:=Inv.made (C:=C0) I;have r2:Vals (V.ref (s.heap.objs.size+1)::(vs++dvs)) (Value.ref (s.heap.objs.size+1)::(us++ds)):=.cons rfl (r.append hd);have hl:(Value.ref (s.heap.objs.size+1)::us++ds).length=ps.length:=by have e:=r2.length;rw[F.len _ _ _ _ hq]at e;exact e.symm
 refine gX (Cm (f:=f) I.kIn M.makes M.init (beq_iff_eq.mp M.fn) (d0 (F.run _ X.stack _ _ ⟨Value.ref (s.heap.objs.size+1)::us,[]⟩ (Value.ref (s.heap.objs.size+1)::(us++ds)) _ _ E (hr.make C0 us [])
  (I2.env0.make C0 us []) (hb _ (Value.ref (s.heap.objs.size+1)::us) I2.kIn hl) r2 hq) λr s' hq'=>?_))
 cases r with
 |error e=>exact hx _ _ e s' I2 hq'
 |ok fl=>
  cases fl with
  |ret u=>obtain⟨v,H',I3,rv,ev,q3⟩:=I2.after hq';subst ev;exact⟨rv,⟨V.ref (s.heap.objs.size+1),H',I3,rfl,q3⟩⟩
  |next=>exact bU hq'
  |brk=>exact bU hq'
  |cont=>exact bU hq'
theorem ps_try(hst:X.stack=X.env::X.outer)(hfm:X.env.frame=some X.env.locals)(hn0:∀e s,¬X.xe e s)(q:XC X.K C)(hg':Gl X y)(hm':X.mg y=some (.ref C))(hdb':(y==("__debug__" : Str))=false)
  (M:Mk X.K C0 f) (F:rJ X.prog X.w X.K X.mg X.base (CXW X.prog X.w C) k f fd ps sp) (hr:qg (k+1) X.A) (hb:Binds X.K fd ps ds) (hd:Vals dvs ds) (hg:Gl X x) (hm:X.mg x=some (.ref C0)) (ha:PA X (e::es) t) (hdb:(x==("__debug__" : Str))=false)
  (he:az (e::es) X.env=(false,eval e X.env)::az es X.env) (hpl:(aZ pos (az es X.env)).any (·.1)=false) (hsw:cj (.Call (.Name x p) (e::es) [] pos) none pos1.line X.env=pure false) (hs:∀v,PSs (X.caught v) (b0::suite) th):
  PS X (.Try [.Expr (.Call (.Name x p) (e::es) [] pos) pos1] [.ExceptHandler (some (.Name y np)) none (b0::suite) hp] [] [] pos2) (λD σ H=>Ep C0 sp dvs (λ_ _ H'=>th D σ H') t σ H λ_ H1=>D.nx σ H1):=by
 intro pins s σ H D I h;refine wpAny_Try_except ?_;let XE:aa->ae->Prop:=λe s₁=>af (model X.prog X.w) X.A (noteFrame e X.env) (λ_ s₂=>af (model X.prog X.w) X.A (setFlight e none) (λ_ s₃=>af (model X.prog X.w) X.A (handleBy e X.env [.ExceptHandler (some (.Name y np)) none (b0::suite) hp]) (SP X pins D) X.xe s₃) X.xe s₂) X.xe s₁;have hx:∀H2 s2 e s',Inv (X.wish XE) pins σ H2 s2->CXW X.prog X.w C X.stack H2 s2 (λ_ _ H'=>th D σ H') e s'->XE e s':=by
  intro H2 s2 ev s' J hc;obtain⟨a,H',rfl,fl,z⟩:=hc;obtain⟨B,a0,hf,hok,kb⟩:=fl.ex;have hfr:X.A.frames=some (X.env::X.outer):=by rw[<-hst];exact I.ok.frames
  have hf':mw B (X.env::X.outer) a (.ref C) a0 s'.heap:=by rw[<-hst];exact hf
  refine wpAny_looks_onW hfr hfm hf' λh4 hh4 up4=>wpAny_landsW hh4 λh5 hf5 up5=>?_;have u5:=un_step kb hf.1 hf5.1 hf.2.2.1 (up4.trans up5) fl.un;have J5:=(J.call' (s':={ s' with heap:=h5 }) (ch:=[]) fl.os u5 (hok.kept hf5.1) fl.bare λ_ z=>nomatch z).unwish;refine wpAny_handleBy_cons (codeAny_handlers_test (uQ (X:=X.caught (.ref a)) (J5.caught _) hg' hm' ?_ hdb')) (by intro q;cases q);obtain⟨bm,N,nm,qn,bs,hd,sn,sub,ab,col,dd,k0,k1,k2,k3,k5,mN,hC,hN,hni,T⟩:=(q.obj I.mod.kin).obj;have hbm:bm.contains (.type "BaseException")=true:=T.hasType (b:=true) rfl;obtain⟨ob,hob,hobc⟩:=hf5.there;refine wpAny_excMatches_sub_self (J5.bk _ _ hC) hob hobc hbm (codeAny_handlers_suite ?_);refine lands_againW hf5 λh6 hf6 up6=>?_;have u6:=un_step kb hf.1 hf6.1 hf.2.2.1 ((up4.trans up5).trans up6) fl.un;have J6:=(J.call' (s':={ s' with heap:=h6 }) (ch:=[]) fl.os u6 (hok.kept hf6.1) fl.bare λ_ z=>nomatch z).unwish;exact bz (hs (.ref a) pins _ σ H' D (J6.caught _) z) (λfl s7 hq=>hq.uncaught I.ok) λ_ _ z=>z.elim
 have key:af (model X.prog X.w) X.A (eval (.Call (.Name x p) (e::es) [] pos) X.env) (EP (X.wish XE) pins σ λ_ H1=>D.nx σ H1) XE s:=by refine dv (uQ I hg hm ?_ hdb);refine gH (h₀:=X.base) I.ok.mod.kin M.kp (thn ((ha.lift hn0) pos pins s σ H _ (I.wish XE) h) λus s1 ⟨vs,H1,I1,r,q⟩=>⟨I1.kIn,?_⟩) he hpl;exact run_makeX (X:=X.wish XE) M F hr hb hd hx I1 r q
 have key2:af (model X.prog X.w) X.A (exec (.Expr (.Call (.Name x p) (e::es) [] pos) pos1) X.env) (SP X pins D) XE s:=lG (thn key λv s1 ⟨x,H1,I1,r1,q1⟩=>⟨σ,H1,I1.unwish,q1⟩) I.quiet hsw;refine iP (thn key2 λf s1 q=>?_);cases f with
 |next=>exact fI (fI q)
 |ret v=>exact q
 |brk=>exact q
 |cont=>exact q
end
end L2
namespace L4
open PySem PySem.Spec PyProof.Rows L2 L3
def zE(E:Ends)(Z:Hp->Prop):Ends:={ nx:=E.nx,rt:=E.rt,bk:=λ_ H=>Z H,ct:=E.ct }
def tFX(G:Bg)(Z:Hp->Prop)(f:FS):TS:=λE σ H=>tFS G f (zE E Z) σ H
def sNb(f:FS):FS:=λρ=>match f ρ with
 |some (.bk _)=>none
 |r=>r
def sRz(a:FA):FS:=λρ=>match a ρ with
 |some ([_],ρ')=>some (.bk ρ')
 |_=>none
def sXp(g:List D->Option Bool)(a:FA):FS:=λρ=>match a ρ with
 |some (ds,ρ')=>match g ds with
  |some true=>some (.nx ρ')
  |some false=>some (.bk ρ')
  |none=>none
 |none=>none
def fnX(np n:Nat)(f:FS):List D->Option Bool:=λds=>if ds.length=np then match f (stE n ds)with
 |some (.nx _)=>some true
 |some (.bk _)=>some false
 |_=>none
 else none
def fnXI(c np n:Nat)(f:FS):List D->Option (Option (List Str×List D)):=λds=>if ds.length=np then match f (stI c n ds)with
 |some (.bk _)=>some none
 |some (.nx _)=>match fnI c np n f ds with
  |some r=>some (some r)
  |none=>none
 |_=>none
 else none
def sTry(g:List D->Option (Option (List Str×List D)))(a:FA)(fh:FS):FS:=λρ=>match a ρ with
 |some (ds,ρ')=>match g ds with
  |some (some _)=>some (.nx ρ')
  |some none=>fh ρ'
  |none=>none
 |none=>none
def spX(G:Bg)(g:List D->Option Bool):Sp:=λvs H Q E=>∃H0 ds d,oW H0 H/\oN G H0 ds vs/\g ds=some d/\
 (d=true->∀H0' H',oW H0 H0'->oW H0' H'->oW H H'->(∀b o,H0' b=some o->H0 b=some o\/H b=none)->Q .non H')/\(d=false->∀e H',oW H H'->E e none H')
def spXI(G:Bg)(c:Nat)(g:List D->Option (Option (List Str×List D))):Sp:=λvs H Q E=>∃(p dx:Addr) (us:List V) (H0:Hp) (ds:List D),vs=.ref p::us/\H p=some (.ins (G.ca c) dx [])/\H0 p=none/\oW H0 H/\oN G H0 ds us/\
 ((∃ns es,g ds=some (some (ns,es))/\∀ys dx' H0' H',oW H0 H0'->oW H0' H'->(∀b o,H b=some o->b≠p->H' b=some o)->(∀b o,H0' b=some o->H0 b=some o\/H b=none)->H0' p=none->H' p=some (.ins (G.ca c) dx' (ns.zip ys))->ns.length=ys.length->oN G H0' es ys->Q .non H')
  \/ (g ds=some none/\∀e H',(∀b o,H b=some o->b≠p->H' b=some o)->E e none H'))
variable{c np:Nat}{ds:List D}{N:List Str}{vs:List V}{E:XK}
section
variable{X:Cx}{G:Bg}{Z:Hp->Prop}
theorem tFS_zE{f:FS}{Q:VK}{nx:St->Hp->Prop}{σ:St}{H:Hp}(h:tFS G f { nx:=nx,rt:=Q } σ H):tFX G Z f { nx:=nx,rt:=Q } σ H:=by
 obtain⟨F,ρ,H0,o,R,e,k,_⟩:=h;refine⟨F,ρ,H0,o,R,e,?_,λ_=>rfl⟩;cases o with
 |bk ρ'=>exact λσ' H0' H' s' R'=>(k σ' H0' H' s' R').elim
 |nx ρ'=>exact k
 |ct ρ'=>exact k
 |rt d ρ'=>exact k
 |rn d ρ'=>exact k
theorem pfx_nil:PSs X [] (tFX G Z pf):=PSs.weak Ei λE σ H h=>Ho (E:=zE E Z) h
theorem pfx_cons{st:Stmt}{rest:List Stmt}{f g:FS}(h1:PS X st (tFX G Z f))(h2:PSs X rest (tFX G Z g)):PSs X (st::rest) (tFX G Z (oK f g)):=PSs.weak (xn h1 h2) λE σ H h=>by
 obtain⟨F,ρ,H0,o,R,e,k,k2⟩:=h;unfold oK at e;cases e1:f ρ with
 |none=>simp only[e1]at e;cases e
 |some o1=>
  cases o1 with
  |nx ρ1=>simp only[e1]at e;exact⟨F,ρ,H0,_,R,e1,λσ' H0' H' s R'=>⟨F,ρ1,H0',o,R',e,k.back s,λ_=>rfl⟩,λ_=>rfl⟩
  |bk ρ1=>simp only[e1]at e;cases e;exact⟨F,ρ,H0,_,R,e1,k,λ_=>rfl⟩
  |ct ρ1=>simp only[e1]at e;cases e;exact⟨F,ρ,H0,_,R,e1,k,λ_=>rfl⟩
  |rt d ρ1=>simp only[e1]at e;cases e;exact⟨F,ρ,H0,_,R,e1,k,λ_=>rfl⟩
  |rn d ρ1=>simp only[e1]at e;cases e;exact⟨F,ρ,H0,_,R,e1,k,λ_=>rfl⟩
theorem pfx_up{st:Stmt}{f:FS}(h:PS X st (tFS G f)):PS X st (tFX G Z (sNb f)):=PS.weak h λE σ H hh=>by
 obtain⟨F,ρ,H0,o,R,e,k,_⟩:=hh;unfold sNb at e;cases e1:f ρ with
 |none=>simp only[e1]at e;cases e
 |some o1=>
  cases o1 with
  |bk ρ1=>simp only[e1]at e;cases e
  |nx ρ1=>simp only[e1]at e;cases e;exact⟨F,ρ,H0,_,R,e1,k,λ_=>rfl⟩
  |ct ρ1=>simp only[e1]at e;cases e;exact⟨F,ρ,H0,_,R,e1,k,λ_=>rfl⟩
  |rt d ρ1=>simp only[e1]at e;cases e;exact⟨F,ρ,H0,_,R,e1,k,λ_=>rfl⟩
  |rn d ρ1=>simp only[e1]at e;cases e;exact⟨F,ρ,H0,_,R,e1,k,λ_=>rfl⟩
theorem pfx_if{c:Expr}{a b:List Stmt}{h:FT}{f g:FS}{pos:Pos}(hc:PT X c (tFT G h))(ha:PSs X a (tFX G Z f))(hb:PSs X b (tFX G Z g)):PS X (.If c a b pos) (tFX G Z (sIf h f g)):=PS.weak (LS hc ha hb) λE σ H hh=>by
 obtain⟨F,ρ,H0,o,R,e,k,k2⟩:=hh;unfold sIf at e;rcases o9 (f:=h) (ρ:=ρ)with e1|⟨d,ρ',e1⟩
 ·simp only[e1]at e;cases e
 ·refine⟨F,ρ,H0,d,ρ',R,e1,λH0' H' s R'=>?_⟩;cases d with
  |true=>simp only[e1]at e;exact BL ⟨F,ρ',H0',o,R',e,k.back s,λ_=>rfl⟩
  |false=>simp only[e1]at e;exact BK ⟨F,ρ',H0',o,R',e,k.back s,λ_=>rfl⟩
theorem pfx_raise{st:Stmt}{a:FA}(h:PS X st (λ_ σ H=>tFA G a σ H λvs H1=>vs.length<=aB/\Z H1)):PS X st (tFX G Z (sRz a)):=PS.weak h λE σ H hh=>by
 obtain⟨F,ρ,H0,o,R,e,k,k2⟩:=hh;unfold sRz at e;split at e
 ·rename_i d ρ' e1;cases e;refine⟨F,ρ,H0,_,ρ',R,e1,λxs H0' H' s R' rs=>⟨?_,k σ H0' H' s R'⟩⟩;rw[<-oM rs];show 1<=aB;decide
 ·cases e
theorem pfx_call{st:Stmt}{g:List D->Option Bool}{a:FA}(h:PS X st (GA (wN (spX G g) [] (λ_ _ H'=>Z H') (tFA G a)))):PS X st (tFX G Z (sXp g a)):=PS.weak h λE σ H hh=>by
 obtain⟨F,ρ,H0,o,R,e,k,k2⟩:=hh;unfold sXp at e;rcases o9 (f:=a) (ρ:=ρ)with e1|⟨ds,ρ',e1⟩<;>simp only[e1]at e
 ·cases e
 ·refine⟨F,ρ,H0,ds,ρ',R,e1,λxs H1 H1' s R' rs=>?_⟩;cases e2:g ds with
  |none=>simp only[e2]at e;cases e
  |some d=>
   refine⟨H1,ds,d,R'.sub,by rw[bH];exact rs,e2,λhd H2 H2' s1 s2 s3 fr=>?_,λhd ev H2' s3=>?_⟩
   ·subst hd;simp only[e2]at e;cases e;exact k σ H2 H2' (s.trans s1) (R'.grow s3 s1 s2 fr)
   ·subst hd;simp only[e2]at e;cases e;exact k σ H1 H2' s (R'.grow s3 (oW.refl _) (R'.sub.trans s3) λb o e=>.inl e)
theorem pfx_try{st:Stmt}{g:List D->Option (Option (List Str×List D))}{a:FA}{fh:FS}(h:PS X st (λD σ H=>Ep (G.ca c) (spXI G c g) [] (λ_ _ H'=>tFS G fh D σ H') (tFA G a) σ H λ_ H1=>D.nx σ H1)):PS X st (tFS G (sTry g a fh)):=PS.weak h λE σ H hh=>by
 obtain⟨F,ρ,H0,o,R,e,k,k2⟩:=hh;unfold sTry at e;rcases o9 (f:=a) (ρ:=ρ)with e1|⟨ds,ρ',e1⟩<;>simp only[e1]at e
 ·cases e
 ·refine⟨F,ρ,H0,ds,ρ',R,e1,λxs H1 H1' s R' rs x dx hx hdx ne=>?_⟩;have hx2:(upd H1' dx (.own x)) x=none:=by rw[o3 (λz=>ne z.symm)];exact hx
  have sx:oW H1' (upd (upd H1' dx (.own x)) x (.ins (G.ca c) dx [])):=(o6 hdx _).trans (o6 hx2 _);refine⟨x,dx,_,H1,ds,rfl,oZ,R'.h0none hx,R'.sub.trans sx,by rw[bH];exact rs,?_⟩;cases e2:g ds with
  |none=>simp only[e2]at e;cases e
  |some r=>
   cases r with
   |none=>simp only[e2]at e;refine .inr ⟨rfl,λev H2' t3=>?_⟩;have t4:oW H1' H2':=λb o e=>t3 b o (sx b o e) (ql e hx);exact⟨F,ρ',H1,o,R'.grow t4 (oW.refl _) (R'.sub.trans t4) (λb o e=>.inl e),e,k.back s,λ_=>rfl⟩
   |some q=>
    obtain⟨ns,es⟩:=q;simp only[e2]at e;cases e;refine .inl ⟨ns,es,rfl,λys dx' H2 H2' t1 t2 t3 fr h0 hp hl ry=>⟨rfl,?_⟩⟩;have t4:oW H1' H2':=λb o e=>t3 b o (sx b o e) (ql e hx);have fr1:∀b o,H2 b=some o->H1 b=some o\/H1' b=none:=λb o e=>by
     rcases fr b o e with q|q
     ·exact .inl q
     ·cases z:H1' b with
      |none=>exact .inr rfl
      |some u=>rw[sx b u z]at q;cases q
    exact k σ H2 H2' (s.trans t1) (R'.grow t4 t1 t2 fr1)
theorem fnX_some{n:Nat}{f:FS}{d:Bool}(h:fnX np n f ds=some d):ds.length=np/\((∃ρ,f (stE n ds)=some (.nx ρ)/\d=true)\/∃ρ,f (stE n ds)=some (.bk ρ)/\d=false):=by
 unfold fnX at h;split at h
 ·rename_i hl;refine⟨hl,?_⟩;split at h
  ·rename_i e;cases h;exact .inl ⟨_,e,rfl⟩
  ·rename_i e;cases h;exact .inr ⟨_,e,rfl⟩
  ·cases h
 ·cases h
theorem entry_X{f:FS}{H:Hp}{Q:VK}(hN:np<=N.length)(h:spX G (fnX np N.length f) vs H Q E):tFX G (λH'=>∀e,E e none H') f { nx:=λ_ H'=>Q .non H',rt:=Q } (L2.start N vs) H:=by
 obtain⟨H0,ds,d,s,r,e,k1,k2⟩:=h;obtain⟨hl,e'⟩:=fnX_some e;have R:=ym (N:=N) s r (by rw[<-oM r,hl];exact hN);have fin:∀{σ':St} {ρ':List Sl} {H0' H':Hp},o8 G ⟨H0,H,[]⟩ σ' ρ' H0' H'->oW H H'/\oW H0' H'/\∀b o,H0' b=some o->H0 b=some o\/H b=none:=λR'=>⟨λb o e=>R'.keep b o e (by simp),R'.sub,R'.fr⟩;clear e;rcases e' with ⟨ρ,e,rfl⟩|⟨ρ,e,rfl⟩
 ·refine⟨_,_,H0,_,R,e,λσ' H0' H' s' R'=>?_,λ_=>rfl⟩;obtain⟨h1,h2,h3⟩:=fin R';exact k1 rfl H0' H' s' h2 h1 h3
 ·refine⟨_,_,H0,_,R,e,λσ' H0' H' s' R' ev=>?_,λ_=>rfl⟩;exact k2 rfl ev H' (fin R').1
theorem len_X{g:List D->Option Bool}(hg:∀ds d,g ds=some d->ds.length=np):∀vs H Q E,spX G g vs H Q E->vs.length=np:=λvs H Q E h=>by obtain⟨H0,ds,d,_,r,e,_⟩:=h;rw[<-oM r];exact hg _ _ e
theorem relI{p dx:Addr}{us:List V}{H0 H:Hp}(hN:us.length+1<=N.length)(hp:H p=some (.ins (G.ca c) dx []))(h0:H0 p=none)(s:oW H0 H)(r:oN G H0 ds us):o8 G ⟨H0,H,[p]⟩ (L2.start N (.ref p::us)) (stI c N.length ds) H0 H:=by
 have gets:∀{i:Nat} {t:Sl},(stI c N.length ds)[i]?=some t->(i=0/\t=.ob c [] [])\/t=.un\/∃(j:Nat) (d:D),i=j+1/\ds[j]?=some d/\t=.im d:=λ{i t} e=>by
  cases i with
  |zero=>cases e;exact .inl ⟨rfl,rfl⟩
  |succ j=>
   have e':(stE (N.length - 1) ds)[j]?=some t:=e;rcases xD e' with rfl|⟨d,e1,rfl⟩
   ·exact .inr (.inl rfl)
   ·exact .inr (.inr ⟨j,d,rfl,e1,rfl⟩)
 exact {
  sub:=s
  g0:=oW.refl _
  keep:=λb o e _=>e
  fr:=λb o e=>.inl e
  am:=λa ha=>by
   have ea:a=p:=by simpa using ha
   subst ea;exact⟨_,hp⟩
  len:=by unfold L2.start stI stE;simp only[au,ag,b8,aA];have:=oM r;omega
  sl:=λi t e=>by
   rcases gets e with ⟨rfl,rfl⟩|rfl|⟨j,d,rfl,e1,rfl⟩
   ·exact⟨p,dx,[],sd rfl,hp,h0,by simp,rfl,pB⟩
   ·trivial
   ·obtain⟨v,e2,e3⟩:=sA r e1;exact⟨v,sd (by simpa using e2),e3⟩
  ap:=λi j t u a hij ei ej ht hu=>by
   rcases gets ei with ⟨rfl,rfl⟩|rfl|⟨_,_,_,_,rfl⟩
   ·rcases gets ej with ⟨rfl,rfl⟩|rfl|⟨_,_,_,_,rfl⟩
    ·exact ao rfl hij
    ·cases hu
    ·cases hu
   ·cases ht
   ·cases ht }
theorem fnXI_some{n:Nat}{f:FS}{r:Option (List Str×List D)}(h:fnXI c np n f ds=some r):ds.length=np/\((∃ρ,f (stI c n ds)=some (.bk ρ)/\r=none)\/∃q,fnI c np n f ds=some q/\r=some q):=by
 unfold fnXI at h;split at h
 ·rename_i hl;refine⟨hl,?_⟩;split at h
  ·rename_i e;cases h;exact .inl ⟨_,e,rfl⟩
  ·split at h
   ·rename_i e;cases h;exact .inr ⟨_,e,rfl⟩
   ·cases h
  ·cases h
 ·cases h
theorem entry_XI{f:FS}{H:Hp}{Q:VK}(hN:np+1<=N.length)(h:spXI G c (fnXI c np N.length f) vs H Q E):tFX G (λH'=>∀e,E e none H') f { nx:=λ_ H'=>Q .non H',rt:=Q } (L2.start N vs) H:=by
 obtain⟨p,dx,us,H0,ds,rfl,hp,h0,s,r,k⟩:=h;rcases k with ⟨ns,es,e,k⟩|⟨e,k⟩
 ·obtain⟨hl,e'⟩:=fnXI_some e;rcases e' with ⟨_,_,z⟩|⟨q,e1,z⟩
  ·cases z
  ·cases z;exact tFS_zE (BO (E:=E) hN ⟨p,dx,us,H0,ds,ns,es,rfl,hp,h0,s,r,e1,k⟩)
 ·obtain⟨hl,e'⟩:=fnXI_some e;rcases e' with ⟨ρ,e1,_⟩|⟨q,_,z⟩
  ·have R:=relI (N:=N) (by rw[<-oM r,hl];exact hN) hp h0 s r;exact⟨_,_,H0,_,R,e1,λσ' H0' H' s' R' ev=>k ev H' λb o e n=>R'.keep b o e (by simpa using n),λ_=>rfl⟩
  ·cases z
theorem len_XI{g:List D->Option (Option (List Str×List D))}(hg:∀ds q,g ds=some q->ds.length=np):∀vs H Q E,spXI G c g vs H Q E->vs.length=np+1:=λvs H Q E h=>by obtain⟨p,dx,us,H0,ds,rfl,_,_,_,r,k⟩:=h;rw[aA,<- oM r];rcases k with ⟨_,_,e,_⟩|⟨e,_⟩<;>rw[hg _ _ e]
end
structure ZX(X:Cx)(B:Bz)(c:Nat)(st:Stmt)(f:FS):Prop where p:(∀e s,¬X.xe e s)->∀xe Z,Passes (CXW B.P B.w (B.G.ca c)) (X.wish xe) (λ_ _ H'=>Z H')->Mades (X.wish xe) (B.G.ca c) Z->PS (X.wish xe) st (tFX B.G Z f)
structure ZY(X:Cx)(B:Bz)(c:Nat)(st:List Stmt)(f:FS):Prop where p:(∀e s,¬X.xe e s)->∀xe Z,Passes (CXW B.P B.w (B.G.ca c)) (X.wish xe) (λ_ _ H'=>Z H')->Mades (X.wish xe) (B.G.ca c) Z->PSs (X.wish xe) st (tFX B.G Z f)
class Xn(B:Bz)(y:Str)(c:outParam Nat):Prop where p:XC B.G.K (B.G.ca c)/\B.mg y=some (.ref (B.G.ca c))
class Dx(B:Bz)(j:outParam Nat)(x:Str)(c:Nat)(g:List D->Option Bool):Prop where p:∃ps f fd,B.mg x=some (.ref f)/\cH B.G.K (.ref f)=true/\Binds B.G.K fd ps []/\rJ B.P B.w B.G.K B.mg B.base (CXW B.P B.w (B.G.ca c)) j f fd ps (spX B.G g)
class Kx(B:Bz)(j:outParam Nat)(x:Str)(c0:outParam Nat)(c:Nat)(g:List D->Option (Option (List Str×List D))):Prop where p:∃ps f fd,Mk B.G.K (B.G.ca c0) f/\B.mg x=some (.ref (B.G.ca c0))/\Binds B.G.K fd ps []/\rJ B.P B.w B.G.K B.mg B.base (CXW B.P B.w (B.G.ca c)) j f fd ps (spXI B.G c0 g)
class Bx(X:Cx):Prop where
 n:∀e s,¬X.xe e s
 st:X.stack=X.env::X.outer
 fm:X.env.frame=some X.env.locals
instance inBx {P:ar}{w:aq}{K:ak}{mg:Str->Option aa}{base:Heap}{N:List Str}{qual:Str}{st:Stmt}{f:Addr}{cdv:aa}{A:aw}{outer:List Env}{s:ae}{H:Hp}{E:XK}:Bx (vQ P w K mg base N qual st f cdv A outer s H E):=⟨λ_ _ z=>z,rfl,rfl⟩
section
variable{X:Cx}{B:Bz}{k j c c0:Nat}{x y:Str}{e:Expr}{es:List Expr}{p p2 p3 pos pos2 pos3 hp:Pos}{a:FA}{st b0:Stmt}{sts sts' suite:List Stmt}{fs fs' fh:FS}{ft:FT}
theorem zr_xU(h:ZS X B st fs):ZX X B c st (sNb fs):=⟨λn xe Z _ _=>pfx_up (h.p.lift n)⟩
theorem zr_yI(h1:ZX X B c st fs)(h2:ZY X B c sts fs'):ZY X B c (st::sts) (oK fs fs'):=⟨λn xe Z q r=>pfx_cons (h1.p n xe Z q r) (h2.p n xe Z q r)⟩
theorem zr_y1(h1:ZX X B c st fs):ZY X B c [st] fs:=⟨λn xe Z q r=>zd (h1.p n xe Z q r)⟩
theorem zr_y0:ZY X B c [] pf:=⟨λn xe Z q r=>pfx_nil⟩
theorem zr_xI(h:ZT X B e ft)(h1:ZY X B c sts fs)(h2:ZY X B c sts' fs'):ZX X B c (.If e sts sts' pos) (sIf ft fs fs'):=⟨λn xe Z q r=>pfx_if (h.p.lift n) (h1.p n xe Z q r) (h2.p n xe Z q r)⟩
section
variable(hg:Gz X x)(hd:Dz x)(hs:Sz X e es)(hl:Lz X pos es)
include hg hd hs hl
theorem zr_xR [C:Cz X B k][Q:Xn B x c](ha:ZA X B (e::es) a):ZX X B c (.Raise (some (.Call (.Name x p) (e::es) [] pos)) none pos2) (sRz a):=
 ⟨λn xe Z q r=>pfx_raise (ps_raise (X:=X.wish xe) (by show XC X.K _;rw[C.K];exact Q.p.1) C.c (by show X.mg x=_;rw[C.mg];exact Q.p.2) r (ha.p.lift n) hg hd hs hl)⟩
theorem zr_xC{g:List D->Option Bool}[C:Cz X B k][Q:Dx B j x c g](ha:ZA X B (e::es) a)(hj:cy j k=true)(hw:cj (.Call (.Name x p) (e::es) [] pos) none pos2.line X.env=pure false):ZX X B c (.Expr (.Call (.Name x p) (e::es) [] pos) pos2) (sXp g a):=by refine⟨λn xe Z q r=>?_⟩;have Q':=Q.p;rw[<-C.P,<- C.w,<- C.K,<- C.mg,<- C.b]at Q';rw[<-C.P,<- C.w]at q;obtain⟨ps,f,fd,h1,h2,h3,h4⟩:=Q';exact pfx_call (Bu (xp (X:=X.wish xe) (p:=p) (pos:=pos) h4 (C.r.mono (cQ.mp hj)) hg h1 h2 h3 .nil q (ha.p.lift n) hd hs hl) hw)
theorem zr_tI{g:List D->Option (Option (List Str×List D))}[C:Cz X B k][Q:Xn B y c][R:Kx B j x c0 c g][b:Bx X](ha:ZA X B (e::es) a)(hh:∀v,ZB (X.caught v) B (b0::suite) fh)(hj:cy (j+1) k=true)(hg':Gz X y)(hd':Dz y)(hw:cj (.Call (.Name x p) (e::es) [] pos) none pos2.line X.env=pure false):
  ZS X B (.Try [.Expr (.Call (.Name x p) (e::es) [] pos) pos2] [.ExceptHandler (some (.Name y p2)) none (b0::suite) hp] [] [] pos3) (sTry g a fh):=by
 have R':=R.p;have Q':=Q.p;rw[<-C.P,<- C.w,<- C.K,<- C.mg,<- C.b]at R';rw[<-C.K,<- C.mg]at Q';obtain⟨ps,f,fd,h1,h2,h3,h4⟩:=R';exact⟨pfx_try (c:=c0) (ps_try (ds:=[]) b.st b.fm b.n Q'.1 hg' Q'.2 hd' h1 h4 (C.r.mono (cQ.mp hj)) h3 .nil hg h2 ha.p hd hs hl hw λv=>(hh v).p)⟩
end
end
section
variable{B:Bz}[Y:Yb B]{x m qual:Str}{st s0:Stmt}{l:List Stmt}{k c c0 np n:Nat}{b:FS}{p:Str}{ps xs:List Str}{N:List Str}
abbrev Bdx(B:Bz)(N:List Str)(qual:Str)(st:Stmt)(l:List Stmt)(k c:Nat)(b:FS):Prop:=∀{f:Addr} {cdv:aa} {A:aw} {outer:List Env} {s:ae} {H:Hp} {E:XK} [Cz (vQ B.P B.w B.G.K B.mg B.base N qual st f cdv A outer s H E) B k],ZY (vQ B.P B.w B.G.K B.mg B.base N qual st f cdv A outer s H E) B c l b
omit Y in
theorem Bdx.ok(h:Bdx B N qual st l k c b)(hl:pA st=l)(f:Addr)(cdv:aa)(A:aw)(outer:List Env)(s:ae)(H:Hp)(E:XK)(hr:qg k (A.deeper (envOfC qual (o4 st) s.heap.objs.size f cdv))):
  PSs (cxW (B.G.ca c) B.P B.w B.G.K B.mg B.base N qual (o4 st) f cdv A outer s H E) (pA st) (tFX B.G (λH'=>∀e,E e none H') b):=by
 subst hl;exact(@h f cdv A outer s H E ⟨rfl,rfl,rfl,rfl,rfl,rfl,hr⟩).p (λ_ _ z=>z) (cxW (B.G.ca c) B.P B.w B.G.K B.mg B.base N qual (o4 st) f cdv A outer s H E).xe _ pass_body λpins σ H s a vs h' I hx z=>made_body I hx z
theorem gX4{g:List D->Option Bool}(hg:g=fnX np n b)(q:GD B.G.K x st)(hl:pA st=s0::l)(body:Bdx B (nmO st) x st (s0::l) k c b)(S:okO (nmO st) (psO st) st np n=true:=by kernel_rfl)(bd:Bds x x st (psO st):=by (repeat intro _);rfl):Dx B (k+1) x c g:=by obtain⟨f,fd,a,F⟩:=q;obtain⟨S1,S2,S3⟩:=okk S;refine⟨psO st,f,fd,Y.y.g a,F.kp,bd.ok F,?_⟩;subst hg S2 S3;obtain⟨oc,od,kV,doc,pm,an,cdv,ct,osl,rfl,lk,hcd⟩:=F.ex;exact Cq lk hcd S1 (len_X λds d h=>(fnX_some h).1) λA outer s H vs Q E hr hsp=>⟨_,body.ok hl f cdv A outer s H E hr,entry_X (by have:=aX cP S1.pre;rw[bL]at this;omega) hsp⟩
theorem gX5(N:List Str){g:List D->Option Bool}(hg:g=fnX np n b)(q:GD B.G.K x st)(hl:pA st=s0::l)(body:Bdx B N x st (s0::l) k c b)(S:okO N (psO st) st np n=true:=by kernel_rfl)(bd:Bds x x st (psO st):=by (repeat intro _);rfl):Dx B (k+1) x c g:=by obtain⟨f,fd,a,F⟩:=q;obtain⟨S1,S2,S3⟩:=okk S;refine⟨psO st,f,fd,Y.y.g a,F.kp,bd.ok F,?_⟩;subst hg S2 S3;obtain⟨oc,od,kV,doc,pm,an,cdv,ct,osl,rfl,lk,hcd⟩:=F.ex;exact Cq lk hcd S1 (len_X λds d h=>(fnX_some h).1) λA outer s H vs Q E hr hsp=>⟨_,body.ok hl f cdv A outer s H E hr,entry_X (by have:=aX cP S1.pre;rw[bL]at this;omega) hsp⟩
theorem gXI4{g:List D->Option (Option (List Str×List D))}(C:CF B.G.K (B.G.ca c0) xs)(a:eV B.G.K aK x=some (some (.ref (B.G.ca c0))))(hg:g=fnXI c0 np n b)(q:GM B.G.K (B.G.ca c0) "__init__" qual st)(hl:pA st=s0::l)(hp:psO st=p::ps)(body:Bdx B (nmO st) qual st (s0::l) k c b)(S:okO (nmO st) (p::ps) st (np+1) n=true:=by kernel_rfl)(bd:Bds "__init__" qual st (p::ps):=by (repeat intro _);rfl):Kx B (k+1) x c0 c g:=by obtain⟨f,fd,i,i',F⟩:=q;obtain⟨S1,S2,S3⟩:=okk S;refine⟨p::ps,f,fd,⟨C.mks,i,i',C.kp⟩,Y.y.g a,bd.ok F,?_⟩;obtain rfl:ps.length=np:=fQ S2;subst hg S3;obtain⟨oc,od,kV,doc,pm,an,cdv,ct,osl,rfl,lk,hcd⟩:=F.ex;exact Cq lk hcd S1 (len_XI λds d h=>(fnXI_some h).1) λA outer s H vs Q E hr hsp=>⟨_,body.ok hl f cdv A outer s H E hr,entry_XI (by have:=aX cP S1.pre;rw[bL,aA]at this;omega) hsp⟩
end
section
variable{X:Cx}{G:Bg}
theorem pf_mut1{e:Expr}{g:List D->List D->Option (D×List D)}{n:FA}(h:PE X e (wN (spM G g) [] E (Rx G pC n))):PE X e (tF G (cMutT g pC n)):=PE.weak h λσ H Q hh=>by
 obtain⟨F,ρ,H0,d,ρ',R,e,k⟩:=hh;unfold cMutT at e;rw[show pC ρ=some ([],ρ) from rfl]at e;dsimp only at e;split at e
 ·rename_i ns ρ2 e2;split at e
  ·rename_i d1 es' e3;cases e;refine⟨F,ρ,H0,[],ρ,ns,_,R,rfl,e2,λys b zs H1 H1' s R' rs h1 h2 h3 h4 h5=>?_⟩;obtain rfl:ys=[]:=by cases ys with
    |nil=>rfl
    |cons y ys=>exact ao (oM rs) (by simp)
   refine⟨b,[],zs,H1,ns,[],_,es',rfl,h1,h2,R'.sub,h5,pB,e3,λv zs' H2 H2' u1 u2 u3 fr w0 w1 w2 w3=>?_⟩;exact k _ _ _ (s.trans u1) (R'.temp h3 h4 u1 u2 u3 fr w1) w3
  ·cases e
 ·cases e
end
section
variable{X:Cx}{B:Bz}{k j:Nat}{x:Str}{e:Expr}{n:FA}{p pos:Pos}
theorem zr_mq1{g:List D->List D->Option (D×List D)}[C:Cz X B k][Q:Df B j x (spM B.G g)](hg:Gz X x)(hd:Dz x)(ha:ZN X B e n)(hs:Sz X e [])(hl:Lz X pos [])(hj:cy j k=true):ZE X B (.Call (.Name x p) [e] [] pos) (cMutT g pC n):=by obtain⟨ps,q⟩:=dz hg hd (X:=X) (Q:=Q);obtain⟨f,fd,h1,h2,h3,h4⟩:=q;exact⟨pf_mut1 (xp (p:=p) (pos:=pos) h4 (C.r.mono (cQ.mp hj)) hg h1 h2 h3 .nil zD (IL ha.p hs) hd hs hl)⟩
end
end L4
namespace L4
open PySem PySem.Spec PySem.Calls PyProof.Rows PySem.W L2 L3
theorem uqP_K{κ α:Type}[DecidableEq κ]:∀(l acc:List (κ×α)),(l.foldl ust acc).map bX=(l.map bX).foldl (λacc k=>if k∈acc then acc else acc++[k]) (acc.map bX)
 |[],_=>rfl
 |q::l,acc=>by rw[cA,uqP_K l,aF,cA];congr 1;unfold ust;split<;>simp
section
variable{X:Cx}{G:Bg}
def SrcU(K:ak)(H:Hp)(a:Addr)(n:Nat):Prop:=N4 K H a n\/
 ∃L:List (List Str×Addr),SqL K H a (L.map λq=>V.ref q.2)/\L.length<=40/\(∀q∈L,∃p r,q.1=[p,r]/\SqT K H q.2 [.str p,.str r])/\n=(uqP L).length
theorem uqP_le{κ α:Type}[DecidableEq κ]:∀(l acc:List (κ×α)),(l.foldl ust acc).length<=acc.length+l.length
 |[],_=>aC _
 |q::l,acc=>by
  have h:=uqP_le l (ust acc q);have h2:(ust acc q).length<=acc.length+1:=by unfold ust;split<;>simp
  rw[cA,aA];omega
theorem set_U2:N5 X SrcU:=by
 intro pins σ H s A E Q a n I hh hu hq h;rcases hq with hq|⟨L,h1,h8,ht,rfl⟩
 ·exact Rg I hh hu hq h
 ·have hl:(uqP L).length<=40:=bp (uqP_le L []) (by rw[bg];omega);refine Su I hh hu (.inl h1) (by omega) ht λh2 k2 o es ep t x kk=>?_;refine h h2 k2 ⟨o,es,ep,t,x.at_,x.ex,x.d,?_,x.fits (ag _),x.sz.trans (ag _)⟩ kk;rw[x.sz,ag];unfold scanBound;omega
def pairsU(ds:List D):Option D:=match yP ds with
 |some ks=>if ds.length<=40 then some (.int (uqK ks).length)else none
 |none=>none
theorem pairs_U(hK:X.K=G.K):∀{ds d H1 H1' a xs},pairsU ds=some d->SqL X.K H1' a xs->oN G H1 ds xs->oW H1 H1'->∃n:Nat,SrcU X.K H1' a n/\d=.int n:=λ{ds d H1 H1' a xs} e hq h2 s=>by
 unfold pairsU at e;cases e2:yP ds with
 |none=>simp only[e2]at e;cases e
 |some ks=>
  simp only[e2]at e;split at e
  ·rename_i hc;cases e;obtain⟨L,rfl,rfl,h3⟩:=EV h2 e2;have hl:=oM h2;rw[ag]at hl;refine⟨_,.inr ⟨L,hq,by omega,λq hq=>?_,rfl⟩,?_⟩
   ·obtain⟨p,r,e,h4⟩:=h3 q hq;rw[<-hK]at h4;exact⟨p,r,e,SqT.mono s h4⟩
   ·have:=aX cP (uqP_K L []);rw[ag]at this;show D.int _=D.int _;rw[show (uqP L).length=_ from this];rfl
  ·cases e
end
section
variable{X:Cx}{B:Bz}{k:Nat}{e:Expr}{f:FE}{p p2 p3 pos:Pos}
theorem zr_l2I [C:Cz X B k][N:Nb B "len"][N':Nb B "set"](hs:S1 X e)(hg:Gz X "len")(hg':Gz X "set")(ha:ZE X B e f)(z:az [Expr.Call (.Name "set" p2) [e] [] p3] X.env=[(false,eval (.Call (.Name "set" p2) [e] [] p3) X.env)]):ZE X B (.Call (.Name "len" p) [.Call (.Name "set" p2) [e] [] p3] [] pos) (c1 (vT pairsU) f):=⟨DY C.K .inl (pairs_U C.K) (F9 set_U2 C.r.units C.c hg (C.mg▸N.p) hg' (C.mg▸N'.p) ha.p z hs)⟩
end
section
variable{X:Cx}{G:Bg}
def rEqN(K:ak)(r:R2):R2:=λx y H Q=>(∃a b xs,x=.ref a/\y=.ref b/\H a=some (.lst xs)/\H b=some (.lst [])/\xs≠[]/\Q (.bl false) H)\/r x y H Q
theorem op_eqN{r:R2}(hu:X.A.units+64<cLine)(h0:OpR X (aS .Eq) r):OpR X (aS .Eq) (rEqN X.K r):=by
 intro pins s σ H x y v u Q I rx ry h;rcases h with ⟨a,b,xs,rfl,rfl,ha,hb,hn,q⟩|h
 ·cases rx;cases ry;obtain⟨its,r1,p,_⟩:=I.list (.inl (.inl ha));obtain⟨its',r2,p',_⟩:=I.list (.inl (.inl hb));cases r2;refine jO p.isList p'.isList ?_ (by omega) (pD I q rfl);cases r1 with
  |nil=>exact ao rfl hn
  |cons _ _=>simp
 ·exact h0 pins s σ H x y v u Q I rx ry h
def dEqN:D->D->Option D
 |.lst (_::_),.lst []=>some (.bl false)
 |x,y=>dEq false x y
theorem od_eqN{r:R2}(h0:OpD G r (dEq false)):OpD G (rEqN G.K r) dEqN:=λx y z H0 H v u Q e s rx ry k=>by
 unfold dEqN at e;split at e
 ·cases e;have rx:=Rep.mono s _ _ rx;have ry:=Rep.mono s _ _ ry;unfold Rep at rx ry;obtain⟨a,xs,rfl,h1,h2⟩:=rx;obtain⟨b,ys,rfl,h3,h4⟩:=ry;unfold oN at h2 h4;subst h4;obtain⟨_,_,rfl,_⟩:=h2;exact .inl ⟨a,b,_,rfl,rfl,h1,h3,(by intro z;cases z),k _ λ_ _=>qp _⟩
 ·exact .inr (h0 x y z H0 H v u Q e s rx ry k)
instance inN9:CmC .Eq dEqN:=⟨λX G h u=>by
 obtain⟨r,o1,o2⟩:=in9.p X G h u;exact⟨rEqN G.K r,by rw[<-h];exact op_eqN u o1,od_eqN o2⟩⟩
end
variable{e:Expr}{f f':FE}
section
variable{X:Cx}{G:Bg}
theorem countP_str(k:Str):∀{vs:List aa} {ss:List Str},j7 vs ss->vs.countP (isStrOf k)=ss.countP λx=>decide (x=k)
 |_,_,.nil=>rfl
 |_,_,.cons n t r=>by rw[lh,lh,countP_str k r];congr 2
def rCountS(K:ak):V->List V->Hp->VK->Prop:=λx vs H Q=>∃(l:Addr) (ss:List Str) (k:Str),x=.ref l/\vs=[.str k]/\SqL K H l (ss.map V.str)/\Q (.int ((ss.countP λx=>decide (x=k)):Nat)) H
theorem mt_countS:MtM X "list.count" (rCountS X.K):=by
 intro pins s σ H x vs v us Q I rx rv h;obtain⟨l,ss,k,rfl,rfl,hq,q⟩:=h;cases rx;obtain⟨u,rfl,ru⟩:=rv.one;obtain⟨t,rfl⟩:=ru;obtain⟨its,ri,pl,_⟩:=I.list hq;have hi:=Dh ri;obtain⟨⟨cls,dd,data,sl⟩,ho,hc,n,hd⟩:=id pl.isList;simp only at hc hd;subst hc hd;refine gY kT ⟨_,ho,rfl⟩ F.entry_list_count (F.args_list_count_2 _ _)
  (nz l its.toArray n dd sl (.str k t) (isStrOf k)) ⟨ho,λy hy=>(eq_isStrOf k t hi y (by simpa using hy)).at _ _,?_⟩
 rw[show its.toArray.toList.countP (isStrOf k)=ss.countP λx=>decide (x=k) from countP_str k hi];exact⟨.int ((ss.countP λx=>decide (x=k)):Nat),_,I.tok _,⟨_,rfl⟩,q⟩
def dCntS:D->D->Option D:=λx y=>match x,y with
 |.lst ds,.str k=>match xN ds with
  |some ss=>some (.int ((ss.countP λx=>decide (x=k)):Nat))
  |none=>none
 |_,_=>none
theorem pf_countS(h:PE X e (tBM G.K "list" (rCountS G.K) (tF G f) (tFA G (aCons f' pC)))):PE X e (tF G (c2 dCntS f f')):=PE.weak h λσ H Q hh=>by
 obtain⟨F,ρ,H0,d,ρ',R,e,k⟩:=hh;obtain⟨x,y,ρ1,e1,e2,e3⟩:=xC e;unfold dCntS at e3;split at e3
 ·rename_i ds kk;cases eq:xN ds with
  |none=>simp only[eq]at e3;cases e3
  |some ss=>simp only[eq]at e3;cases e3;refine⟨F,ρ,H0,_,ρ1,R,e1,λv H1 H1' s1 R1 r1=>?_⟩;unfold Rep at r1;obtain⟨a,xs,rfl,h1,h2⟩:=r1;have hx:=z4 h2 eq;subst hx;refine⟨.inl ⟨rfl,_,SqL.of (R1.sub _ _ h1)⟩,F,ρ1,H1,[.str kk],ρ',R1,by unfold aCons;rw[e2];rfl,λys H2 H2' s2 R2 rs=>?_⟩;unfold oN at rs;obtain⟨v,r0,rfl,rv,rn⟩:=rs;unfold oN at rn;unfold Rep at rv;subst rn rv;exact⟨a,ss,kk,rfl,rfl,SqL.of (R2.sub _ _ (s2 _ _ h1)),k _ H2 H2' (s1.trans s2) R2 (qo _)⟩
 ·cases e3
theorem mt_countX(hK:X.K=G.K:=by rfl):MtM X "list.count" (rCountS G.K):=by rw[<-hK];exact mt_countS
def cAlt(f f':FE):FE:=λρ=>match f ρ with
 |some r=>some r
 |none=>f' ρ
def cAltT(f f':FT):FT:=λρ=>match f ρ with
 |some r=>some r
 |none=>f' ρ
theorem pf_alt(h:PE X e (tF G f))(h':PE X e (tF G f')):PE X e (tF G (cAlt f f')):=λpins s σ H Q I hh=>by
 obtain⟨F,ρ,H0,d,ρ',R,e,k⟩:=hh;unfold cAlt at e;split at e
 ·rename_i r er;cases e;exact h pins s σ H Q I ⟨F,ρ,H0,d,ρ',R,er,k⟩
 ·exact h' pins s σ H Q I ⟨F,ρ,H0,d,ρ',R,e,k⟩
theorem pft_alt{f f':FT}(h:PT X e (tFT G f))(h':PT X e (tFT G f')):PT X e (tFT G (cAltT f f')):=λpins s σ H Q I hh=>by
 obtain⟨F,ρ,H0,d,ρ',R,e,k⟩:=hh;unfold cAltT at e;split at e
 ·rename_i r er;cases e;exact h pins s σ H Q I ⟨F,ρ,H0,d,ρ',R,er,k⟩
 ·exact h' pins s σ H Q I ⟨F,ρ,H0,d,ρ',R,e,k⟩
def dNinN:D->D->Option D
 |.non,.dic _ _=>some (.bl true)
 |_,_=>none
def tDNinN(ty td:TE):TE:=λσ H Q=>ty σ H λy H1=>td σ H1 λx H2=>∃a kvs,x=.ref a/\y=.non/\Rd H2 a (.dK kvs)/\Q (.bl true) H2
theorem pc_dninN{i o:Expr}{ty td:TE}(hi:PE X i ty)(ho:PE X o td):PC X .NotIn i o (tDNinN ty td):=by intro pins s σ H Q I h;refine thn (hi pins s σ H _ I h) λiv s1 ⟨y,H1,I1,ry,q1⟩=>thn (ho pins s1 σ H1 _ I1 q1) λu s2 zz=>?_;obtain⟨x,H2,I2,rx,a,kvs,ex,ey,e,q2⟩:=zz;subst ex ey;obtain rfl:u=Value.ref a:=rx;obtain rfl:iv=.none:=ry;obtain⟨z,hd,vs,rel,dd⟩:=zC I2.hok e;exact lK (knd:=optKind X.prog X.w) (k:=none) rfl hd (Lu dd.mapOf) ⟨.bl true,H2,I2.tok _,rfl,q2⟩
theorem pft_dninN{a b:Expr}{pos:Pos}(ha:PE X a (tF G f))(hb:PE X b (tF G f'))(h1:cD .NotIn b=false):PT X (.Compare a [.NotIn] [b] pos) (tFT G (cT (c2 dNinN f f'))):=PT.weak (Gx (pc_dninN ha hb) h1) λσ H Q hh=>by
 obtain⟨F,ρ,H0,d,ρ',R,e,k⟩:=zf σ H Q hh;obtain⟨y,x,ρ1,e1,e2,e3⟩:=xC e;refine⟨F,ρ,H0,y,ρ1,R,e1,λu H1 H1' s1 R1 r1=>⟨F,ρ1,H1,x,ρ',R1,e2,λv H2 H2' s2 R2 r2=>?_⟩⟩;unfold dNinN at e3;split at e3
 ·cases e3;unfold Rep at r1 r2;obtain⟨p,ob,xs,rfl,h1,h2,h3⟩:=r2;exact⟨p,_,rfl,r1,.inr ⟨_,R2.sub _ _ h1⟩,k _ _ _ (s1.trans s2) R2 (qp _)⟩
 ·cases e3
section
variable{B:Bz}{k:Nat}{e e':Expr}{f f':FE}{apos pos:Pos}
theorem zr_cnK{m:Str}[C:Cz X B k](hm:m="count")(ha:ZE X B e f)(hb:ZE X B e' f')(h1:Az X e m)(h2:Ez apos pos)(h3:S1 X e'):ZE X B (.Call (.Attribute e m apos) [e'] [] pos) (c2 dCntS f f'):=by subst hm;exact⟨pf_countS (bmI h1 h2 h3 fE kT F.type_list_count (mt_countX C.K) ha.p (sC hb.p tU h3))⟩
theorem zr_alE{f2:FE}(h:ZE X B e f)(h':ZE X B e f2):ZE X B e (cAlt f f2):=⟨pf_alt h.p h'.p⟩
theorem zr_alT{f1 f2:FT}(h:ZT X B e f1)(h':ZT X B e f2):ZT X B e (cAltT f1 f2):=⟨pft_alt h.p h'.p⟩
theorem zr_nnT(ha:ZE X B e f)(hb:ZE X B e' f')(hm:cD .NotIn e'=false):ZT X B (.Compare e [.NotIn] [e'] pos) (cT (c2 dNinN f f')):=⟨pft_dninN ha.p hb.p hm⟩
end
end
end L4
namespace K10x
open PySem L2 L3 L4
abbrev D:=L4.D
def top(i:Nat):Stmt:=PySem.Challenge.pw_tellworld_k10_whole_worlds_let_by.main.body.getD i (.Pass ⟨0,0,0,0⟩)
def uH:Nat->Bool:=λc=>c==14
def uI:Nat->Bool:=λc=>c==2
def pz:Nat->Bool:=λc=>c==2
def vA:Nat->Bool:=λc=>c==14
def vV:Nat->Bool:=λc=>c==14
def oU:Nat->Bool:=λc=>c==0||c==7
def rg:Nat->Bool:=λc=>c==1
def oQ:Nat->Bool:=λc=>c==0||c==1||c==2
def pR:Nat->Bool:=λc=>c==2
def uJ:Nat->Bool:=λc=>c==14
def uK:Nat->Bool:=λc=>c==14
def oY:Nat->Bool:=λc=>c==0||c==1
def tH:Nat->Bool:=λc=>c==13
def pj:Nat->Bool:=λc=>c==0
def wW:Nat->Bool:=λc=>c==14
abbrev IW:Ty->Option Bool:=z5 15 1
abbrev E4:Ty->Option Bool:=z5 15 0
abbrev IY:Ty->Option Bool:=z5 15 2
def B5:L4.D:=(D.tup [(D.str "room"),(D.str "plain"),(D.str "fixed"),(D.str "box"),(D.str "lamp"),(D.str "you")])
def E5:L4.D:=(D.tup [(D.str "alone"),(D.str "one"),(D.str "two"),(D.str "way")])
def tX:L4.D:=(D.tup [(D.str "room"),(D.str "box"),(D.str "you")])
def tY:L4.D:=(D.tup [(D.str "box"),(D.str "lamp")])
def wX:L4.D:=(D.tup [(D.str "room"),(D.str "you")])
def vW:L4.D:=(D.int 8)
def vX:L4.D:=(D.int 12)
def Ah:L4.D:=(D.tup [(D.str "it"),(D.str "other"),(D.str "here"),(D.str "the"),(D.str "a"),(D.str "undo"),(D.str "restart")])
def Ai:L4.D:=(D.tup [(D.str "the"),(D.str "a")])
def xQ:L4.D:=(D.int 5)
def uh:L4.D:=(D.int 7)
def xR:L4.D:=(D.int 4)
def vY:L4.D:=(D.int 3)
def tZ:L4.D:=(D.int 10)
def vh:L4.D:=(D.int 6)
def xS:L4.D:=(D.int 4)
def qw:L4.D:=(D.tup [(D.str "the"),(D.str "a"),(D.str "undo"),(D.str "restart")])
def xT:L4.D:=(D.int 20)
def tI:FS:=(px (qu (c1 (rP (qF "str")) (cV 0)) (qu (qO sG sG (cC (.int 1)) (c1 rG (cV 0)) (cV 1)) (c1 qW (cL (oT 1 [] (iS (cV 0)) (gN 0) pF (qO HJ HJ (cS "a") (cV 0) (cS "z"))))))))
def rp:=fnD 2 2 tI
def A8:FS:=(px (qu (oP rp (aCons (cV 0) (a1 (cC vW)))) (c2 (dIn true) (cV 0) (cC Ah))))
def sg:=fnD 1 1 A8
def A9:FS:=(px (qu (oP rp (aCons (cV 0) (a1 (cC vX)))) (c2 (dIn true) (cV 0) (cC Ai))))
def p8:=fnD 1 1 A9
def yQ:FS:=(px (qu (c1 (rP (qF "str")) (cV 0)) (c2 (dIn false) (cV 0) (cV 1))))
def pq:=fnD 2 2 yQ
def Aj:FS:=(px (qu (c1 (rP (qF "int")) (cV 0)) (BN (c1 (rP (qF "bool")) (cV 0)))))
def xb:=fnD 1 1 Aj
def vC:FS:=(px (qu (c1 (rP (qF "list")) (cV 0)) (c2 sG (c1 rG (cV 0)) (cV 1))))
def pH:=fnD 2 2 vC
def Ak:FS:=(px (cIf (cT (c1 (rP (qF "list")) (cV 0))) (cL (uF (cV 0))) (cV 0)))
def xc:=fnD 1 1 Ak
def xU:FS:=(oK (pG 0 0 "name" (cV 1))
 (oK (pG 0 0 "words" (cV 2))
 (oK (pG 0 0 "kind" (cV 3))
 (pG 0 0 "start" (cV 4)))))
def rR:=fnI 0 4 5 xU
def yR:FS:=(oK (pG 1 0 "name" (cV 1))
 (oK (pG 1 0 "start" (cV 2))
 (pG 1 0 "most" (cV 3))))
def vZ:=fnI 1 3 4 yR
def v5:FS:=(oK (pG 2 0 "name" (cV 1))
 (oK (pG 2 0 "others" (cIf (cT (c2 vc (cV 2) (cC D.non))) (sU pC) (cV 2)))
 (oK (pG 2 0 "form" (cV 3))
 (pG 2 0 "joining" (cV 4)))))
def qk:=fnI 2 4 5 v5
def Ba:FS:=(oK (pG 3 0 "term" (cV 1))
 (pG 3 0 "place" (cV 2)))
def yy:=fnI 3 2 3 Ba
def Al:FS:=(pG 4 0 "term" (cV 1))
def xf:=fnI 4 1 2 Al
def wY:FS:=(oK (pG 6 0 "term" (cV 1))
 (pG 6 0 "value" (cV 2)))
def qm:=fnI 6 2 3 wY
def yS:FS:=(oK (pG 7 0 "term" (cV 1))
 (pG 7 0 "kind" (cV 2)))
def qR:=fnI 7 2 3 yS
def yT:FS:=(pG 8 0 "word" (cV 1))
def yU:=fnI 8 1 2 yT
def Am:FS:=(pG 9 0 "inner" (cV 1))
def qS:=fnI 9 1 2 Am
def yV:FS:=(oK (pG 11 0 "term" (cV 1))
 (pG 11 0 "place" (cV 2)))
def sI:=fnI 11 2 3 yV
def An:FS:=(oK (pG 12 0 "term" (cV 1))
 (pG 12 0 "value" (cV 2)))
def tJ:=fnI 12 2 3 An
def yW:FS:=(oK (pG 13 0 "verb" (cV 1))
 (oK (pG 13 0 "tests" (oP xc (a1 (cV 2))))
 (oK (pG 13 0 "deeds" (oP xc (a1 (cV 3))))
 (oK (pG 13 0 "text" (cV 4))
 (pG 13 0 "refuses" (cV 5))))))
def v7:=fnI 13 5 6 yW
def uL:FS:=(px (c2 (dIn false) (c1 (oH oU "kind") (cV 0)) (cC tX)))
def uM:=fnD 1 1 uL
def qT:Nat->Option (List D->Option D):=λc=>match c with
 |0=>some uM
 |_=>none
def uN:FS:=(px (c2 (dIn false) (c1 (oH oU "kind") (cV 0)) (cC tY)))
def uO:=fnD 1 1 uN
def qq:Nat->Option (List D->Option D):=λc=>match c with
 |0=>some uO
 |_=>none
def tK:FS:=(px (c2 (dIn true) (c1 (oH oU "kind") (cV 0)) (cC wX)))
def tL:=fnD 1 1 tK
def sh:Nat->Option (List D->Option D):=λc=>match c with
 |0=>some tL
 |_=>none
def vE:FS:=(sIf (ra (cT (cV 0))) (sRz (a1 (cV 1))) pf)
def oI:=fnX 2 2 vE
def Ao:FS:=(px (c1 rG (cL (oT 1 [1] (iL (cV 0)) (gN 0) (cT (c2 (dEq false) (c1 (oH oU "kind") (cV 0)) (cV 1))) (cV 0)))))
def tN:=fnD 2 2 Ao
def xV:FS:=(qM (oT 1 [] (iL (cV 0)) (gN 0) (cT (rE sh "is_plainly" (cV 0) pC)) (cV 0)))
def qx:=fnN 1 1 xV
def Bb:FS:=(oK (sIf (qK (ra (cT (c1 (rP IW) (cV 0)))) (qK (ra (cT (oP xb (a1 (c1 (oH oY "start") (cV 0)))))) (ra (cT (oP xb (a1 (c1 (oH rg "most") (cV 0)))))))) (px (cC (.bl false))) pf)
 (px (qu (qO sG sG (cC (.int 1)) (c1 (oH rg "most") (cV 0)) (cC vY)) (qO sG sG (cC (.int 0)) (c1 (oH oY "start") (cV 0)) (c1 (oH rg "most") (cV 0))))))
def wG:=fnD 1 1 Bb
def tP:FS:=(oK (sNb (pd 1 (qu (c1 (rP (qF "list")) (cV 0)) (c1 qW (cL (oT 1 [] (iL (cV 0)) (gN 0) pF (c1 (rP E4) (cV 0))))))))
 (oK (sXp oI (aCons (cV 1) (a1 (cS "things are a list of things"))))
 (oK (sXp oI (aCons (c1 qW (cL (oT 1 [] (iL (cV 0)) (gN 0) pF (oP pq (aCons (c1 (oH oU "kind") (cV 0)) (a1 (cC B5))))))) (a1 (cS "a thing is of no kind"))))
 (oK (sXp oI (aCons (qO sG sG (cC (.int 1)) (oP tN (aCons (cV 0) (a1 (cS "room")))) (cC xQ)) (a1 (cS "a world has 1 to 5 rooms"))))
 (oK (sXp oI (aCons (c2 (dEq false) (oP tN (aCons (cV 0) (a1 (cS "you")))) (cC (.int 1))) (a1 (cS "a world has just one you"))))
 (sXp oI (aCons (c2 sG (c1 rG (cL (qe qx (a1 (cV 0))))) (cC uh)) (a1 (cS "a world has at most 7 things beside rooms and you")))))))))
def tQ:=fnX 1 2 tP
def ui:FS:=(oK (sNb (pd 1 (qu (oP pH (aCons (cV 0) (a1 (cC xR)))) (c1 qW (cL (oT 1 [] (iL (cV 0)) (gN 0) pF (oP wG (a1 (cV 0)))))))))
 (sXp oI (aCons (cV 1) (a1 (cS "marks are a list of at most 4 marks, each from 0 to at most 3")))))
def uj:=fnX 1 2 ui
def xW:FS:=(px (c2 (dEq false) (c1 (vT pairsU) (cV 0)) (c1 rG (cV 0))))
def pK:=fnD 1 1 xW
def um:FS:=(oK (sNb (pd 2 (cL (qa (cL (oT 1 [] (iL (cV 0)) (gN 0) pF (c1 (oH oQ "name") (cV 0)))) (cL (oT 1 [] (iL (cV 1)) (gN 0) pF (c1 (oH oQ "name") (cV 0))))))))
 (oK (sXp oI (aCons (c1 qW (cL (oT 1 [] (iL (cV 2)) (gN 0) pF (oP sg (a1 (cV 0)))))) (a1 (cS "a name is no name"))))
 (sXp oI (aCons (oP pK (a1 (cV 2))) (a1 (cS "two things or marks have one name"))))))
def uo:=fnX 2 3 um
def xX:FS:=(qM (qa (cL (oT 1 [] (iL (cV 0)) (gN 0) (cT (rE qq "has_mark" (cV 0) pC)) (c1 (oH oQ "name") (cV 0)))) (cL (oT 1 [] (iL (cV 1)) (gN 0) pF (c1 (oH oQ "name") (cV 0))))))
def sV:=fnN 2 2 xX
def xg:FS:=(oK (sIf (cT (c2 (dEq false) (c1 (oH oU "kind") (cV 1)) (cS "room"))) (px (c2 vc (c1 (oH oY "start") (cV 1)) (cC D.non))) pf)
 (oK (sIf (cT (c2 (dEq false) (c1 (oH oU "kind") (cV 1)) (cS "you"))) (px (oP pq (aCons (c1 (oH oY "start") (cV 1)) (a1 (cL (oT 1 [] (iL (cV 0)) (gN 0) (cT (c2 (dEq false) (c1 (oH oU "kind") (cV 0)) (cS "room"))) (c1 (oH oQ "name") (cV 0)))))))) pf)
 (px (oP pq (aCons (c1 (oH oY "start") (cV 1)) (a1 (cL (oT 1 [] (iL (cV 0)) (gN 0) (cT (rE qT "can_hold" (cV 0) pC)) (c1 (oH oQ "name") (cV 0))))))))))
def xh:=fnD 2 2 xg
def vF:FS:=(oK (pd 2 (c2 qQ (cV 0) (cV 1)))
 (oK (q9 (iR1 (c1 rG (cV 0))) (gN 3) (oK (sIf (cT (c2 vc (cV 2) (cC D.non))) (px (cC (.bl true))) pf)
 (pd 2 (c2 qQ (cV 0) (cV 2)))))
 (px (c2 vc (cV 2) (cC D.non)))))
def pU:=fnD 2 4 vF
def qU:FS:=(oK (sXp oI (aCons (c1 qW (cL (oT 1 [0] (iL (cV 0)) (gN 0) pF (oP xh (aCons (cV 1) (a1 (cV 0))))))) (a1 (cS "a start is none"))))
 (oK (sNb (zX 1))
 (oK (sNb (q9 (iL (cV 0)) (gN 2) (rQ 1 (c1 (oH oQ "name") (cV 2)) (c1 (oH oY "start") (cV 2)))))
 (sXp oI (aCons (c1 qW (cL (oT 1 [1] (iD (cFz 1)) (gN 0) pF (oP pU (aCons (cV 1) (a1 (cV 0))))))) (a1 (cS "a thing starts within itself")))))))
def qV:=fnX 1 3 qU
def yX:FS:=(oK (sIf (qK (ra (cT (c1 (rP (qF "tuple")) (cV 0)))) (ra (cT (qO sG sG (cC (.int 1)) (c1 rG (cV 0)) (cC xS))))) (px (cC (.bl false))) pf)
 (px (qu (c1 qW (cL (oT 1 [] (iT (cV 0)) (gN 0) pF (oP p8 (a1 (cV 0)))))) (oP pK (a1 (cV 0))))))
def pV:=fnD 1 1 yX
def Bc:FS:=(px (c1 qW (cL (oT 1 [0] (iT (cV 1)) (gN 0) pF (c2 (dIn false) (cV 0) (cV 1))))))
def tp:=fnD 2 2 Bc
def sL:FS:=(oK (pd 2 (cL (oT 1 [1] (iL (cV 0)) (gN 0) (cT (c2 (dEq true) (c1 (oH oQ "name") (cV 0)) (c1 (oH oQ "name") (cV 1)))) (cV 0))))
 (px (BN (c1 zY (cL (oT 1 [1] (iL (cV 2)) (gN 0) pF (oP tp (aCons (c1 (oH pj "words") (cV 0)) (a1 (c1 (oH pj "words") (cV 1)))))))))))
def qH:=fnD 2 3 sL
def pO:FS:=(oK (sXp oI (aCons (c1 qW (cL (oT 1 [] (iL (cV 0)) (gN 0) pF (oP pV (a1 (c1 (oH pj "words") (cV 0))))))) (a1 (cS "a thing has 1 to 4 unlike words, as a tuple"))))
 (oK (sNb (pd 1 (cL (qe qx (a1 (cV 0))))))
 (sXp oI (aCons (c1 qW (cL (oT 1 [1] (iL (cV 1)) (gN 0) pF (oP qH (aCons (cV 1) (a1 (cV 0))))))) (a1 (cS "one thing has all words of another"))))))
def pP:=fnX 1 2 pO
def sX:FS:=(oK (sNb (pd 2 (qu (c1 (rP (qF "list")) (cV 0)) (qu (c1 qW (cL (oT 1 [1] (iL (cV 0)) (gN 0) pF (oP pq (aCons (cV 0) (a1 (cV 1))))))) (oP pK (a1 (cV 0)))))))
 (sXp oI (aCons (cV 2) (a1 (cS "dark is a list of rooms' names, each once")))))
def qY:=fnX 2 3 sX
def Ap:FS:=(oK (sIf (qK (ra (cT (c1 (rP (qF "tuple")) (cV 0)))) (cT (c2 (dEq true) (c1 rG (cV 0)) (cC (.int 4))))) (px (cC (.bl false))) pf)
 (oK (pd 3 (cOr (c2 vc (c2 dIx (cV 0) (cC (.int 3))) (cC D.non)) (oP pq (aCons (c2 dIx (cV 0) (cC (.int 3))) (a1 (cV 2))))))
 (px (qu (oP pq (aCons (c2 dIx (cV 0) (cC (.int 0))) (a1 (cV 1)))) (qu (oP p8 (a1 (c2 dIx (cV 0) (cC (.int 1))))) (qu (oP pq (aCons (c2 dIx (cV 0) (cC (.int 2))) (a1 (cV 1)))) (cV 3)))))))
def rS:=fnD 3 4 Ap
def rT:FS:=(oK (sNb (pd 3 (qu (oP pH (aCons (cV 0) (a1 (cC tZ)))) (c1 qW (cL (oT 1 [1,2] (iL (cV 0)) (gN 0) pF (oP rS (aCons (cV 0) (aCons (cV 1) (a1 (cV 2)))))))))))
 (oK (sXp oI (aCons (cV 3) (a1 (cS "ways are a list of at most 10 tuples (room, word, room, mark)"))))
 (sXp oI (aCons (oP pK (a1 (cL (oT 1 [] (iL (cV 0)) (gN 0) pF (sU (aCons (c2 dIx (cV 0) (cC (.int 0))) (a1 (c2 dIx (cV 0) (cC (.int 1)))))))))) (a1 (cS "two ways lead from one room by one word"))))))
def rV:=fnX 3 4 rT
def Bd:FS:=(oK (sIf (qK (ra (cT (c1 (rP IY) (cV 0)))) (qK (ra (cT (oP sg (a1 (c1 (oH oQ "name") (cV 0)))))) (ra (cT (c1 (rP (qF "tuple")) (c1 (oH pR "others") (cV 0))))))) (px (cC (.bl false))) pf)
 (oK (sIf (qK (ra (cT (c1 qW (cL (oT 1 [] (iT (c1 (oH pR "others") (cV 0))) (gN 0) pF (oP sg (a1 (cV 0)))))))) (ra (cT (oP pq (aCons (c1 (oH uI "form") (cV 0)) (a1 (cC E5))))))) (px (cC (.bl false))) pf)
 (px (cIf (cT (c2 (dEq false) (c1 (oH uI "form") (cV 0)) (cS "two"))) (oP p8 (a1 (c1 (oH pz "joining") (cV 0)))) (c2 vc (c1 (oH pz "joining") (cV 0)) (cC D.non))))))
def rF:=fnD 1 1 Bd
def sq:FS:=(oK (sNb (pd 1 (qu (oP pH (aCons (cV 0) (a1 (cC vh)))) (c1 qW (cL (oT 1 [] (iL (cV 0)) (gN 0) pF (oP rF (a1 (cV 0)))))))))
 (sXp oI (aCons (cV 1) (a1 (cS "verbs are a list of at most 6 verbs")))))
def sr:=fnX 1 2 sq
def yY:FS:=(px (BN (c1 zY (cL (oT 1 [1] (iL (cV 0)) (gN 0) pF (c2 (dIn false) (cV 0) (cV 1)))))))
def pY:=fnD 2 2 yY
def qy:FS:=(oK (sNb (tV 3 (oJ pC)))
 (oK (sNb (q9 (iL (cL (qe qx (a1 (cV 0))))) (gN 4) (qD (vS 3 (c1 (oH pj "words") (cV 4))))))
 (oK (sNb (tV 5 (oJ pC)))
 (oK (sNb (q9 (iL (cV 2)) (gN 6) (qD (vS 5 (vR (sU (a1 (c1 (oH oQ "name") (cV 6)))) (c1 (oH pR "others") (cV 6)))))))
 (oK (sNb (pd 7 (cL (qa (cL (oT 1 [] (iL (cV 2)) (gN 0) (cT (c2 rO (c1 (oH pz "joining") (cV 0)) (cC D.non))) (c1 (oH pz "joining") (cV 0)))) (cL (oT 1 [] (iL (cV 1)) (gN 0) pF (c2 dIx (cV 0) (cC (.int 1)))))))))
 (oK (sXp oI (aCons (oP pK (a1 (cFz 5))) (a1 (cS "two verbs' names are alike"))))
 (oK (sXp oI (aCons (oP pY (aCons (cL (qa (cFz 5) (cV 7))) (a1 (cFz 3)))) (a1 (cS "a verb's, way's or joining word is a word of a thing"))))
 (oK (sXp oI (aCons (oP pY (aCons (cL (qa (cFz 5) (cV 7))) (a1 (cC qw)))) (a1 (cS "the, a, undo or restart is a word of the world"))))
 (sXp oI (aCons (oP pY (aCons (cV 7) (a1 (cFz 5)))) (a1 (cS "a way's or joining word is a verb's name"))))))))))))
def rq:=fnX 3 8 qy
def uq:FS:=(oK (sXp tQ (a1 (cV 0)))
 (oK (sXp uj (a1 (cV 1)))
 (oK (sXp uo (aCons (cV 0) (a1 (cV 1))))
 (oK (sXp qV (a1 (cV 0)))
 (oK (sXp pP (a1 (cV 0)))
 (oK (sNb (pd 6 (cL (oT 1 [] (iL (cV 0)) (gN 0) (cT (c2 (dEq false) (c1 (oH oU "kind") (cV 0)) (cS "room"))) (c1 (oH oQ "name") (cV 0))))))
 (oK (sXp qY (aCons (cV 2) (a1 (cV 6))))
 (oK (sXp rV (aCons (cV 3) (aCons (cV 6) (a1 (cL (qe sV (aCons (cV 0) (a1 (cV 1)))))))))
 (oK (sXp sr (a1 (cV 4)))
 (sXp rq (aCons (cV 0) (aCons (cV 3) (a1 (cL (qa (cV 4) (cV 5))))))))))))))))
def ur:=fnX 6 7 uq
def IZ:FS:=(px (pE 13 (λds=>v7 (ds++[])) (aCons (cV 0) (aCons (cV 1) (aCons (cV 2) (aCons (cV 3) (a1 (cC (.bl false)))))))))
def tR:=fnD 4 4 IZ
def Be:FS:=(px (pE 13 (λds=>v7 (ds++[])) (aCons (cV 0) (aCons (cV 1) (aCons (cL (oJ pC)) (aCons (cV 2) (a1 (cC (.bl true)))))))))
def pT:=fnD 3 3 Be
def xY:FS:=(qM (oJ (aCons (oP pT (aCons (cS "take") (aCons (cL (oJ (a1 (pE 7 (λds=>qR (ds++[])) (aCons (cS "it") (a1 (cS "fixed"))))))) (a1 (cS "That stays."))))) (aCons (oP pT (aCons (cS "take") (aCons (cL (oJ (a1 (pE 3 (λds=>yy (ds++[])) (aCons (cS "it") (a1 (cV 0))))))) (a1 (cS "You have that."))))) (aCons (oP tR (aCons (cS "take") (aCons (cL (oJ pC)) (aCons (cL (oJ (a1 (pE 11 (λds=>sI (ds++[])) (aCons (cS "it") (a1 (cV 0))))))) (a1 (cS "Taken.")))))) (aCons (oP tR (aCons (cS "drop") (aCons (cL (oJ (a1 (pE 4 (λds=>xf (ds++[])) (a1 (cS "it")))))) (aCons (cL (oJ (a1 (pE 11 (λds=>sI (ds++[])) (aCons (cS "it") (a1 (cS "here"))))))) (a1 (cS "Dropped.")))))) (a1 (oP pT (aCons (cS "drop") (aCons (cL (oJ pC)) (a1 (cS "You lack that."))))))))))))
def vm:=fnN 1 1 xY
def yZ:FS:=(qM (oJ (aCons (oP pT (aCons (cS "put") (aCons (cL (oJ (a1 (pE 9 (λds=>qS (ds++[])) (a1 (pE 4 (λds=>xf (ds++[])) (a1 (cS "it")))))))) (a1 (cS "You lack that."))))) (aCons (oP pT (aCons (cS "put") (aCons (cL (oJ (a1 (pE 9 (λds=>qS (ds++[])) (a1 (pE 7 (λds=>qR (ds++[])) (aCons (cS "other") (a1 (cS "box"))))))))) (a1 (cS "It holds nothing."))))) (aCons (oP pT (aCons (cS "put") (aCons (cL (oJ (a1 (pE 6 (λds=>qm (ds++[])) (aCons (cS "other") (a1 (cC (.int 0)))))))) (a1 (cS "It is shut."))))) (a1 (oP tR (aCons (cS "put") (aCons (cL (oJ pC)) (aCons (cL (oJ (a1 (pE 11 (λds=>sI (ds++[])) (aCons (cS "it") (a1 (cS "other"))))))) (a1 (cS "Done."))))))))))))
def v8:=fnN 0 0 yZ
def y1:FS:=(qM (oJ (aCons (oP pT (aCons (cS "open") (aCons (cL (oJ (a1 (pE 9 (λds=>qS (ds++[])) (a1 (pE 7 (λds=>qR (ds++[])) (aCons (cS "it") (a1 (cS "box"))))))))) (a1 (cS "It has no lid."))))) (aCons (oP pT (aCons (cS "open") (aCons (cL (oJ (a1 (pE 6 (λds=>qm (ds++[])) (aCons (cS "it") (a1 (cC (.int 1)))))))) (a1 (cS "It is open."))))) (aCons (oP tR (aCons (cS "open") (aCons (cL (oJ pC)) (aCons (cL (oJ (a1 (pE 12 (λds=>tJ (ds++[])) (aCons (cS "it") (a1 (cC (.int 1)))))))) (a1 (cS "Opened.")))))) (aCons (oP pT (aCons (cS "shut") (aCons (cL (oJ (a1 (pE 9 (λds=>qS (ds++[])) (a1 (pE 7 (λds=>qR (ds++[])) (aCons (cS "it") (a1 (cS "box"))))))))) (a1 (cS "It has no lid."))))) (aCons (oP pT (aCons (cS "shut") (aCons (cL (oJ (a1 (pE 6 (λds=>qm (ds++[])) (aCons (cS "it") (a1 (cC (.int 0)))))))) (a1 (cS "It is shut."))))) (a1 (oP tR (aCons (cS "shut") (aCons (cL (oJ pC)) (aCons (cL (oJ (a1 (pE 12 (λds=>tJ (ds++[])) (aCons (cS "it") (a1 (cC (.int 0)))))))) (a1 (cS "Shut."))))))))))))))
def wa:=fnN 0 0 y1
def wZ:FS:=(qM (oJ (aCons (oP pT (aCons (cS "light") (aCons (cL (oJ (a1 (pE 9 (λds=>qS (ds++[])) (a1 (pE 7 (λds=>qR (ds++[])) (aCons (cS "it") (a1 (cS "lamp"))))))))) (a1 (cS "It burns not."))))) (aCons (oP pT (aCons (cS "light") (aCons (cL (oJ (a1 (pE 6 (λds=>qm (ds++[])) (aCons (cS "it") (a1 (cC (.int 1)))))))) (a1 (cS "It is lit."))))) (aCons (oP tR (aCons (cS "light") (aCons (cL (oJ pC)) (aCons (cL (oJ (a1 (pE 12 (λds=>tJ (ds++[])) (aCons (cS "it") (a1 (cC (.int 1)))))))) (a1 (cS "Lit.")))))) (aCons (oP pT (aCons (cS "douse") (aCons (cL (oJ (a1 (pE 9 (λds=>qS (ds++[])) (a1 (pE 7 (λds=>qR (ds++[])) (aCons (cS "it") (a1 (cS "lamp"))))))))) (a1 (cS "It burns not."))))) (aCons (oP pT (aCons (cS "douse") (aCons (cL (oJ (a1 (pE 6 (λds=>qm (ds++[])) (aCons (cS "it") (a1 (cC (.int 0)))))))) (a1 (cS "It is out."))))) (a1 (oP tR (aCons (cS "douse") (aCons (cL (oJ pC)) (aCons (cL (oJ (a1 (pE 12 (λds=>tJ (ds++[])) (aCons (cS "it") (a1 (cC (.int 0)))))))) (a1 (cS "Doused."))))))))))))))
def uu:=fnN 0 0 wZ
def y3:FS:=(oK (tV 2 (oJ (aCons (pE 3 (λds=>yy (ds++[])) (aCons (cV 0) (a1 (c2 dIx (cV 1) (cC (.int 0)))))) (a1 (pE 8 (λds=>yU (ds++[])) (a1 (c2 dIx (cV 1) (cC (.int 1)))))))))
 (oK (sIf (cT (c2 rO (c2 dIx (cV 1) (cC (.int 3))) (cC D.non))) (qD (vI 2 (pE 9 (λds=>qS (ds++[])) (a1 (pE 6 (λds=>qm (ds++[])) (aCons (c2 dIx (cV 1) (cC (.int 3))) (a1 (cC (.int 0))))))))) pf)
 (qM (BP 2))))
def wb:=fnN 2 3 y3
def xi:FS:=(oK (pd 2 (cL (oT 1 [0] (iL (cV 1)) (gN 0) pF (oP tR (aCons (cS "go") (aCons (cL (qe wb (aCons (cV 1) (a1 (cV 0))))) (aCons (cL (oJ (a1 (pE 11 (λds=>sI (ds++[])) (aCons (cV 1) (a1 (c2 dIx (cV 0) (cC (.int 2))))))))) (a1 (cS "You go.")))))))))
 (qM (qa (cV 2) (cL (oJ (a1 (oP pT (aCons (cS "go") (aCons (cL (oJ pC)) (a1 (cS "No way there.")))))))))))
def xj:=fnN 2 3 xi
def xZ:FS:=(qM (oJ (a1 (oP tR (aCons (cS "wait") (aCons (cL (oJ pC)) (aCons (cL (oJ pC)) (a1 (cS "Time goes by.")))))))))
def x8:=fnN 0 0 xZ
def wc:FS:=(qM (qa (cL (qa (cL (qa (cL (qa (cL (qa (cL (qe vm (a1 (cV 0)))) (cL (qe v8 pC)))) (cL (qe wa pC)))) (cL (qe uu pC)))) (cL (qe xj (aCons (cV 0) (a1 (cV 1))))))) (cL (qe x8 pC))))
def tS:=fnN 2 2 wc
def wd:FS:=(qM (qa (cL (oT 1 [] (iT (sU (aCons (cS "take") (aCons (cS "drop") (aCons (cS "open") (aCons (cS "shut") (aCons (cS "light") (a1 (cS "douse"))))))))) (gN 0) pF (pE 2 (λds=>qk (ds++[D.non,(D.str "one"),D.non])) (a1 (cV 0))))) (cL (oJ (aCons (pE 2 (λds=>qk (ds++[])) (aCons (cS "put") (aCons (sU pC) (aCons (cS "two") (a1 (cS "in")))))) (aCons (pE 2 (λds=>qk (ds++[D.non])) (aCons (cS "go") (aCons (sU pC) (a1 (cS "way"))))) (a1 (pE 2 (λds=>qk (ds++[D.non])) (aCons (cS "wait") (aCons (sU pC) (a1 (cS "alone"))))))))))))
def rW:=fnN 0 0 wd
def yz:FS:=(oK (zX 1)
 (oK (q9 (iL (cV 0)) (gN 2) (rQ 1 (c1 (oH oQ "name") (cV 2)) (cV 2)))
 (px (cFz 1))))
def yA:=fnD 1 3 yz
def sM:FS:=(oK (zX 2)
 (oK (q9 (iL (cV 0)) (gN 3) (sIf (cT (rE qq "has_mark" (cV 3) pC)) (rQ 2 (c1 (oH oQ "name") (cV 3)) (cC (.int 1))) pf))
 (oK (q9 (iL (cV 1)) (gN 4) (rQ 2 (c1 (oH oQ "name") (cV 4)) (c1 (oH rg "most") (cV 4))))
 (px (cFz 2)))))
def sN:=fnD 2 5 sM
def sO:FS:=(oK (zX 1)
 (oK (q9 (iL (cV 0)) (gN 2) (q9 (iT (vR (sU (a1 (c1 (oH oQ "name") (cV 2)))) (c1 (oH pR "others") (cV 2)))) (gN 3) (rQ 1 (cV 3) (cV 2))))
 (px (cFz 1))))
def sP:=fnD 1 4 sO
def Bf:FS:=(D1 (oH tH "verb"))
def yB:=fnD 1 3 Bf
def vG:FS:=(qM (oT 1 [1] (iL (c1 (oH vA "kept_things") (cV 0))) (gN 0) (cT (c2 (dEq false) (c1 (oH oU "kind") (cV 0)) (cV 1))) (c1 (oH oQ "name") (cV 0))))
def sQ:=fnD 2 2 vG
def uv:Nat->Option (List D->Option D):=λc=>match c with
 |14=>some sQ
 |_=>none
def ua:FS:=(qM (qa (c1 (oH vV "kept_verbs") (cV 0)) (c1 (oH uK "shared_verbs") (cV 0))))
def rX:=fnD 1 1 ua
def sR:Nat->Option (List D->Option D):=λc=>match c with
 |14=>some rX
 |_=>none
def qz:FS:=(oK (sXp ur (aCons (cV 1) (aCons (cV 2) (aCons (cV 3) (aCons (cV 4) (aCons (cV 5) (a1 (cL (qe rW pC)))))))))
 (oK (sNb (pG 14 0 "kept_things" (cL (uF (cV 1)))))
 (oK (sNb (pG 14 0 "kept_marks" (cL (uF (cV 2)))))
 (oK (sNb (pG 14 0 "kept_dark" (cL (uF (cV 3)))))
 (oK (sNb (pG 14 0 "kept_ways" (cL (uF (cV 4)))))
 (oK (sNb (pG 14 0 "kept_verbs" (cL (uF (cV 5)))))
 (oK (sNb (pG 14 0 "shared_verbs" (cL (qe rW pC))))
 (oK (sNb (pG 14 0 "your_name" (wU 15 (c2 dIx (rE uv "of_kind" (cV 0) (a1 (cS "you"))) (cC (.int 0))))))
 (oK (sNb (pG 14 0 "things_by_name" (oP yA (a1 (cV 1)))))
 (oK (sNb (pG 14 0 "mosts_by_name" (oP sN (aCons (cV 1) (a1 (cV 2))))))
 (oK (sNb (pG 14 0 "verbs_by_word" (wU 15 (oP sP (a1 (rE sR "all_verbs" (cV 0) pC))))))
 (oK (sNb (pd 7 (wU 15 (qu (oP pH (aCons (cV 6) (a1 (cC xT)))) (c1 qW (cL (oT 1 [0] (iL (cV 6)) (gN 0) pF BW)))))))
 (oK (sXp oI (aCons (cV 7) (a1 (cS "rules are a list of at most 20 rules, each as it may be"))))
 (oK (sNb (pG 14 0 "kept_rules" (cL (uF (cV 6)))))
 (oK (sNb (pG 14 0 "shared_rules" (wU 15 (cL (qe tS (aCons (c1 (oH wW "your_name") (cV 0)) (a1 (cV 4))))))))
 (oK (sNb (pG 14 0 "copied_rules" (cL (oT 1 [] (iL (cV 6)) (gN 0) pF BW))))
 (sNb (pG 14 0 "rules_by_verb" (wU 15 (oP yB (a1 (cL (qa (c1 (oH uH "copied_rules") (cV 0)) (c1 (oH uJ "shared_rules") (cV 0)))))))))))))))))))))))))
def qA:=fnXI 14 6 8 qz
def we:FS:=(oK (sIf (cT (c2 KH (cV 1) (c1 rG (cV 0)))) (px (c2 dIx (cV 0) (cV 1))) pf)
 (px (cC (.int 0))))
def pS:=fnD 2 2 we
def sY:FS:=(oK (sIf (vz (cT (c2 (dEq false) (c1 rG (cV 0)) (cC (.int 1))))) (oK (pd 2 (xI (c2 dIx (cV 0) (cC (.int 0)))))
 (oK (ue 0 0 (c2 uE (cV 2) (c1 DN (c2 NG (cV 2) (c2 HI (cC (.int 10)) (cC (.int 18)))))))
 (qD (KB 0 (oJ (aCons (c2 qZ (cV 2) (cC (.int 2147483647))) (a1 (cC (.int 0))))))))) pf)
 (oK (sIf (vz (cT (c2 CO (c2 dIx (cV 0) (cC (.int 0))) (cC (.int 0))))) (oK (pd 3 (xI (c2 qZ (c2 dIx (cV 0) (cC (.int 0))) (cV 1))))
 (oK (ue 0 0 (xI (c2 vP (c2 dIx (cV 0) (cC (.int 0))) (cV 1))))
 (px (cV 3)))) pf)
 (oK (ue 0 2 (xI (c2 qN (c2 dIx (cV 0) (cC (.int 2))) (cC (.int 1)))))
 (oK (pd 4 (xI (c2 qZ (c2 uE (c2 qN (c2 qN (c2 dIx (cV 0) (cC (.int 1))) (c2 uE (cC (.int 7919)) (c2 dIx (cV 0) (cC (.int 2))))) (cC (.int 1))) (cC (.int 48271))) (cC (.int 2147483647)))))
 (oK (pd 4 (c2 qZ (c2 uE (cV 4) (c2 qN (c2 vP (cV 4) (cC (.int 1009))) (cC (.int 69621)))) (cC (.int 2147483647))))
 (px (c2 qZ (c2 qZ (c2 uE (cV 4) (c2 qN (c2 vP (cV 4) (cC (.int 2003))) (cC (.int 40692)))) (cC (.int 2147483399))) (cV 1))))))))
def o5:=fnM 1 5 sY
def ub:FS:=(oK (sIf (cT (c2 (dEq false) (pJ o5 0 (a1 (cC (.int 9)))) (cC (.int 0)))) (px (c2 dIx (cV 2) (pJ o5 0 (a1 (c1 rG (cV 2)))))) pf)
 (px (c2 dIx (cV 1) (pJ o5 0 (a1 (c1 rG (cV 1)))))))
def oO:=fnM 2 3 ub
def su:FS:=(oK (pd 1 (cL (oJ (aCons (cS "hall") (aCons (cS "cave") (aCons (cS "case") (aCons (cS "key") (aCons (cS "lamp") (a1 (cS "sack"))))))))))
 (oK (tV 2 (oJ pC))
 (oK (pd 3 (pJ o5 0 (a1 (cC (.int 6)))))
 (oK (pd 4 (cL (oJ (aCons (cS "room") (aCons (cS "room") (aCons (cS "box") (aCons (cS "plain") (aCons (cS "lamp") (a1 (cS "fixed"))))))))))
 (oK (q9 (iR1 (pJ o5 0 (a1 (cC (.int 7))))) (gN 5) (oK (pd 6 (pJ oO 0 (aCons (cL (oJ (a1 (c2 dIx (cV 1) (c2 qZ (c2 qN (cV 5) (cV 3)) (cC (.int 6))))))) (a1 (cL (qa (cV 1) (cL (oJ (aCons (cS "it") (a1 (cS "here")))))))))))
 (oK (pd 7 (pJ oO 0 (aCons (cL (oJ (a1 (c2 dIx (cV 4) (c2 qZ (c2 qN (cV 5) (cV 3)) (cC (.int 6))))))) (a1 (cL (qa (cV 4) (cL (oJ (a1 (cS "you"))))))))))
 (oK (pd 8 (sH (cL (oT 1 [0,6] (iR1 (c2 qN (cC (.int 1)) (pJ o5 0 (a1 (cC (.int 2)))))) (gN 0) pF (pJ oO 1 (aCons (cL (oJ (a1 (cV 2)))) (a1 (cL (oJ (aCons (cS "old") (aCons (cS "red") (aCons (cS "case") (a1 (cS "x"))))))))))))))
 (oK (pd 8 (Aa (vJ (cV 8) oNo (oAt (cC (.int 1)))) (sH (cL (oT 1 [] (iT (vJ (cV 8) (oAt (cC (.int 1))) oNo)) (gN 0) pF (c2 sS (cV 0) (cS "s")))))))
 (oK (pd 9 (pJ oO 0 (aCons (cL (oJ (aCons (cS "hall") (aCons (cS "hall") (aCons (cS "me") (a1 (cS "case"))))))) (a1 (cL (qa (cV 1) (cL (oJ (aCons (cS "me") (a1 (cC D.non)))))))))))
 (oK (sIf (cT (c2 (dEq false) (cV 7) (cS "room"))) (pd 9 (pJ oO 0 (aCons (cL (oJ (a1 (cC D.non)))) (a1 (cL (oJ (aCons (cS "hall") (a1 (cS "me"))))))))) pf)
 (qD (vI 2 (pE 0 (λds=>rR (ds++[])) (aCons (cV 6) (aCons (cV 8) (aCons (cV 7) (a1 (cV 9)))))))))))))))
 (oK (sIf (cT (c2 CO (pJ o5 0 (a1 (cC (.int 12)))) (cC (.int 0)))) (qD (vI 2 (pE 0 (λds=>rR (ds++[])) (aCons (cS "me") (aCons (sU (a1 (cS "me"))) (aCons (cS "you") (a1 (pJ oO 0 (aCons (cL (oJ (a1 (cS "hall")))) (a1 (cL (oJ (aCons (cS "cave") (aCons (cS "case") (aCons (cS "me") (a1 (cC D.non))))))))))))))))) pf)
 (qM (BP 2))))))))
def ux:=fnM 0 10 su
def vo:FS:=(oK (tV 1 (oJ pC))
 (oK (q9 (iL (cL (xa (cL (oJ (aCons (cS "gate") (aCons (cS "luck") (a1 (cS "bell")))))) oNo (oAt (pJ o5 0 (a1 (cC (.int 4)))))))) (gN 2) (oK (pd 3 (pJ oO 0 (aCons (cL (oJ (aCons (cC (.int 1)) (aCons (cC (.int 2)) (a1 (cC (.int 3))))))) (a1 (cL (oJ (aCons (cC (.int 0)) (aCons (cC (.int 4)) (a1 (c1 wV (cC (.int 1))))))))))))
 (oK (pd 4 (pJ oO 0 (aCons (cL (oJ (aCons (cC (.int 0)) (a1 (cC (.int 1)))))) (a1 (cL (oJ (aCons (cC (.int 2)) (aCons (cC (.int 3)) (aCons (cC (.int 4)) (a1 (c1 wV (cC (.int 1)))))))))))))
 (qD (vI 1 (pE 1 (λds=>vZ (ds++[])) (aCons (pJ oO 0 (aCons (cL (oJ (a1 (cV 2)))) (a1 (cL (oJ (aCons (cS "gate") (aCons (cS "case") (a1 (cS "undo"))))))))) (aCons (cV 4) (a1 (cV 3))))))))))
 (qM (BP 1))))
def vp:=fnM 0 5 vo
def wg:FS:=(oK (tV 1 (oJ pC))
 (oK (q9 (iR1 (pJ o5 0 (a1 (cC (.int 4))))) (gN 2) (oK (pd 3 (pJ oO 0 (aCons (cL (oJ (aCons (cS "hall") (a1 (cS "cave"))))) (a1 (cL (oJ (aCons (cS "me") (aCons (cS "case") (a1 (cS "key"))))))))))
 (oK (pd 4 (pJ oO 0 (aCons (cL (oJ (aCons (cS "north") (aCons (cS "up") (a1 (cS "down")))))) (a1 (cL (oJ (aCons (cS "the") (aCons (cS "in") (aCons (cS "go") (aCons (cS "key") (a1 (cS "undo"))))))))))))
 (oK (pd 5 (pJ oO 0 (aCons (cL (oJ (aCons (cC D.non) (aCons (cC D.non) (a1 (cS "gate")))))) (a1 (cL (oJ (aCons (cS "case") (aCons (cS "lamp") (aCons (cS "key") (aCons (cS "luck") (a1 (cS "hall"))))))))))))
 (qD (vI 1 (sU (aCons (cV 3) (aCons (cV 4) (aCons (pJ oO 0 (aCons (cL (oJ (a1 (cS "hall")))) (a1 (cL (oJ (aCons (cS "cave") (aCons (cS "me") (a1 (cS "x"))))))))) (a1 (cV 5))))))))))))
 (qM (BP 1))))
def wm:=fnM 0 6 wg
def vq:FS:=(oK (tV 1 (oJ pC))
 (oK (q9 (iL (cL (xa (cL (oJ (aCons (cS "push") (aCons (cS "tie") (a1 (cS "sing")))))) oNo (oAt (pJ o5 0 (a1 (cC (.int 4)))))))) (gN 2) (oK (pd 3 (c2 dIx (cL (oJ (aCons (cS "alone") (aCons (cS "one") (aCons (cS "two") (a1 (cS "way"))))))) (pJ o5 0 (a1 (cC (.int 4))))))
 (oK (pd 4 (pJ oO 0 (aCons (cL (oJ (a1 (c2 dIx (cL (oJ (aCons (cC D.non) (a1 (cS "with"))))) (c1 DN (c2 (dEq false) (cV 3) (cS "two"))))))) (a1 (cL (oJ (aCons (cC D.non) (aCons (cS "in") (aCons (cS "north") (aCons (cS "key") (a1 (cS "tie"))))))))))))
 (oK (pd 5 (cL (oJ (aCons (cS "push") (aCons (cS "key") (aCons (cS "a") (aCons (cS "take") (aCons (cS "up") (a1 (cS "in"))))))))))
 (oK (pd 6 (sH (cL (oT 1 [0,5,2] (iR1 (pJ o5 0 (a1 (cC (.int 2))))) (gN 0) pF (pJ oO 1 (aCons (cL (oJ (a1 (c2 sS (cV 3) (cS "s"))))) (a1 (cV 2))))))))
 (qD (vI 1 (pE 2 (λds=>qk (ds++[])) (aCons (pJ oO 0 (aCons (cL (oJ (a1 (cV 2)))) (a1 (cL (oJ (aCons (cS "put") (aCons (cS "red") (aCons (cS "restart") (a1 (cS "in")))))))))) (aCons (cV 6) (aCons (cV 3) (a1 (cV 4)))))))))))))
 (qM (BP 1))))
def vt:=fnM 0 7 vq
def x9:FS:=(px (c2 (dEq true) (cL (oT 1 [0] (iR1 (c1 rG (cV 0))) (gN 0) (cAltT (cT (c2 (dIn false) (c2 dIx (cV 1) (cV 0)) (cAlt (cL (xa (cV 1) oNo (oAt (cV 0)))) (vJ (cV 1) oNo (oAt (cV 0)))))) (cT (c2 dInT (c2 dIx (cV 1) (cV 0)) (cAlt (cL (xa (cV 1) oNo (oAt (cV 0)))) (vJ (cV 1) oNo (oAt (cV 0))))))) (cC (.int 1)))) (cL (oJ pC))))
def pM:=fnD 1 1 x9
def sv:FS:=(oK (zX 1)
 (oK (q9 (iL (cV 0)) (gN 2) (rQ 1 (c1 (oH oQ "name") (cV 2)) (cV 2)))
 (oK (q9 (iL (cV 0)) (gN 2) (oK (sIf (cT (c2 (dEq false) (c1 (oH oU "kind") (cV 2)) (cS "room"))) (sIf (cT (c2 rO (c1 (oH oY "start") (cV 2)) (cC D.non))) (px (cC (.bl false))) pf) (sIf (qK (cAltT (cT (c2 (zc true) (c1 (oH oY "start") (cV 2)) (cFz 1))) (cT (c2 dNinN (c1 (oH oY "start") (cV 2)) (cFz 1)))) (cT (c2 (dIn true) (c1 (oH oU "kind") (c2 qQ (cFz 1) (c1 (oH oY "start") (cV 2)))) (cL (oJ (aCons (cS "room") (aCons (cS "box") (a1 (cS "you"))))))))) (px (cC (.bl false))) pf))
 (sIf (rb (cT (c2 (dEq false) (c1 (oH oU "kind") (cV 2)) (cS "you"))) (cT (c2 (dEq true) (c1 (oH oU "kind") (c2 qQ (cFz 1) (c1 (oH oY "start") (cV 2)))) (cS "room")))) (px (cC (.bl false))) pf)))
 (oK (q9 (iL (cV 0)) (gN 2) (oK (pd 3 (cV 2))
 (oK (q9 (iR1 (c1 rG (cV 0))) (gN 4) (sIf (cT (c2 (dEq true) (c1 (oH oU "kind") (cV 3)) (cS "room"))) (pd 3 (c2 qQ (cFz 1) (c1 (oH oY "start") (cV 3)))) pf))
 (sIf (cT (c2 (dEq true) (c1 (oH oU "kind") (cV 3)) (cS "room"))) (px (cC (.bl false))) pf))))
 (px (cC (.bl true)))))))
def uy:=fnD 1 5 sv
def rA:FS:=(oK (pd 2 (cL (qa (cL (oT 1 [] (iL (cV 0)) (gN 0) pF (c1 (oH oQ "name") (cV 0)))) (cL (oT 1 [] (iL (cV 1)) (gN 0) pF (c1 (oH oQ "name") (cV 0)))))))
 (oK (sIf (qK (cT (oP pM (a1 (cV 2)))) (cT (c2 (dEq true) (cL (oT 1 [] (iL (cV 2)) (gN 0) (cT (c2 (dIn false) (cV 0) (cL (oJ (aCons (cS "it") (aCons (cS "here") (a1 (cS "undo")))))))) (cV 0))) (cL (oJ pC))))) (px (cC (.bl false))) pf)
 (oK (pd 3 (cL (oT 1 [] (iL (cV 0)) (gN 0) pF (c1 (oH oU "kind") (cV 0)))))
 (oK (sIf (qK (cT (c2 (dEq true) (c2 dCntS (cV 3) (cS "you")) (cC (.int 1)))) (qK (ra (cT (qO sG sG (cC (.int 1)) (c2 dCntS (cV 3) (cS "room")) (cC (.int 5))))) (ra (cT (oP uy (a1 (cV 0))))))) (px (cC (.bl false))) pf)
 (oK (pd 4 (cL (oT 1 [] (iL (cV 0)) (gN 0) (cT (c2 (dIn true) (c1 (oH oU "kind") (cV 0)) (cL (oJ (aCons (cS "room") (a1 (cS "you"))))))) (cV 0))))
 (oK (q9 (iL (cV 0)) (gN 5) (sIf (cT (oP pM (a1 (c1 (oH pj "words") (cV 5))))) (px (cC (.bl false))) pf))
 (oK (q9 (iL (cV 4)) (gN 5) (q9 (iL (cV 4)) (gN 6) (sIf (rb (cT (c2 (dEq true) (c1 (oH oQ "name") (cV 6)) (c1 (oH oQ "name") (cV 5)))) (cT (c2 dEqN (cL (oT 1 [6] (iT (c1 (oH pj "words") (cV 5))) (gN 0) (cT (c2 (dIn true) (cV 0) (c1 (oH pj "words") (cV 1)))) (cV 0))) (cL (oJ pC))))) (px (cC (.bl false))) pf)))
 (px (c2 dEqN (cL (oT 1 [] (iL (cV 1)) (gN 0) (qK (ra (cT (qO sG sG (cC (.int 1)) (c1 (oH rg "most") (cV 0)) (cC (.int 3))))) (ra (cT (qO sG sG (cC (.int 0)) (c1 (oH oY "start") (cV 0)) (c1 (oH rg "most") (cV 0)))))) (cV 0))) (cL (oJ pC)))))))))))
def rB:=fnD 2 7 rA
def sj:FS:=(oK (pd 4 (cL (oT 1 [] (iL (cV 0)) (gN 0) (cT (c2 (dEq false) (c1 (oH oU "kind") (cV 0)) (cS "room"))) (c1 (oH oQ "name") (cV 0)))))
 (oK (pd 5 (cL (qa (cL (oT 1 [] (iL (cV 1)) (gN 0) pF (c1 (oH oQ "name") (cV 0)))) (cL (oT 1 [] (iL (cV 0)) (gN 0) (cT (c2 (dIn false) (c1 (oH oU "kind") (cV 0)) (cL (oJ (aCons (cS "box") (a1 (cS "lamp"))))))) (c1 (oH oQ "name") (cV 0)))))))
 (oK (sIf (qK (cT (c2 (dEq true) (cL (oT 1 [4] (iL (cV 2)) (gN 0) (cT (c2 (dIn true) (cV 0) (cV 1))) (cV 0))) (cL (oJ pC)))) (qK (cT (oP pM (a1 (cV 2)))) (cT (oP pM (a1 (cL (oT 1 [] (iL (cV 3)) (gN 0) pF (Li (cV 0) none (some 2))))))))) (px (cC (.bl false))) pf)
 (oK (q9 (iL (cV 3)) (gT (w5 (gN 6) (w5 (gN 7) (w5 (gN 8) (w5 (gN 9) Hw)))) 4) (sIf (qK (cT (c2 (dIn true) (cV 6) (cV 4))) (qK (cT (c2 (dIn true) (cV 8) (cV 4))) (qK (cT (c2 (dEq false) (cV 7) (cS "the"))) (rb (cT (c2 rO (cV 9) (cC D.non))) (cT (c2 (dIn true) (cV 9) (cV 5))))))) (px (cC (.bl false))) pf))
 (px (cC (.bl true)))))))
def sk:=fnD 4 10 sj
def rY:FS:=(oK (pd 3 (cL (oJ (aCons (cS "take") (aCons (cS "drop") (aCons (cS "open") (aCons (cS "shut") (aCons (cS "light") (aCons (cS "douse") (aCons (cS "put") (aCons (cS "go") (a1 (cS "wait")))))))))))))
 (oK (tV 4 (qa (cL (oJ (a1 (cS "in")))) (cL (oT 1 [] (iL (cV 1)) (gN 0) pF (c2 dIx (cV 0) (cC (.int 1)))))))
 (oK (q9 (iL (cV 2)) (gN 5) (oK (pd 3 (cL (qa (cL (qa (cV 3) (cL (oJ (a1 (c1 (oH oQ "name") (cV 5))))))) (cL (uF (c1 (oH pR "others") (cV 5)))))))
 (oK (sIf (cT (c2 (dEq false) (c2 vc (c1 (oH pz "joining") (cV 5)) (cC D.non)) (c2 (dEq false) (c1 (oH uI "form") (cV 5)) (cS "two")))) (px (cC (.bl false))) pf)
 (sIf (cT (c2 rO (c1 (oH pz "joining") (cV 5)) (cC D.non))) (qD (vI 4 (c1 (oH pz "joining") (cV 5)))) pf))))
 (oK (sIf (vz (qK (cT (oP pM (a1 (cV 3)))) (cT (c2 (dEq true) (cL (oT 1 [] (iL (cL (qa (cV 3) (cV 4)))) (gN 0) (cT (c2 (dIn false) (cV 0) (cL (oJ (aCons (cS "a") (aCons (cS "undo") (a1 (cS "restart")))))))) (cV 0))) (cL (oJ pC)))))) (px (cC (.bl false))) pf)
 (oK (sIf (vz (cT (c2 (dEq true) (cL (oT 1 [3] (iL (cV 4)) (gN 0) (cT (c2 (dIn false) (cV 0) (cV 1))) (cV 0))) (cL (oJ pC))))) (px (cC (.bl false))) pf)
 (oK (q9 (iL (cV 0)) (gN 6) (sIf (vz (rb (cT (c2 (dIn true) (c1 (oH oU "kind") (cV 6)) (cL (oJ (aCons (cS "room") (a1 (cS "you"))))))) (cT (c2 (dEq true) (cL (oT 1 [3,4] (iT (c1 (oH pj "words") (cV 6))) (gN 0) (cT (c2 (dIn false) (cV 0) (cL (qa (cV 1) (cV 2))))) (cV 0))) (cL (oJ pC)))))) (px (cC (.bl false))) pf))
 (px (cC (.bl true)))))))))
def rZ:=fnD 3 7 rY
def Dj:FS:=(oK (pd 1 (cMutT ux pC (oJ (a1 (oP pS (aCons (cV 0) (a1 (cC (.int 0)))))))))
 (oK (pd 2 (cMutT vp pC (oJ (a1 (oP pS (aCons (cV 0) (a1 (cC (.int 1)))))))))
 (oK (pd 3 (cMutT wm pC (oJ (a1 (oP pS (aCons (cV 0) (a1 (cC (.int 2)))))))))
 (oK (pd 4 (cMutT vt pC (oJ (a1 (oP pS (aCons (cV 0) (a1 (cC (.int 3)))))))))
 (oK (tV 5 (oJ (a1 (c2 qN (oP pS (aCons (cV 0) (a1 (cC (.int 3))))) (cC (.int 1))))))
 (oK (pd 6 (cL (oT 1 [5] (iR1 (c2 vP (pJ o5 5 (a1 (cC (.int 6)))) (cC (.int 2)))) (gN 0) pF (pJ oO 1 (aCons (cL (oJ (a1 (cS "hall")))) (a1 (cL (oJ (aCons (cS "cave") (aCons (cS "case") (a1 (cS "me"))))))))))))
 (oK (pd 7 (qu (oP rB (aCons (cV 1) (a1 (cV 2)))) (oP sk (aCons (cV 1) (aCons (cV 2) (aCons (cV 6) (a1 (cV 3))))))))
 (oK (pd 7 (qu (cV 7) (oP rZ (aCons (cV 1) (aCons (cV 3) (a1 (cV 4)))))))
 (oK (pd 8 (cC (.bl true)))
 (oK (sTry qA (aCons (cV 1) (aCons (cV 2) (aCons (cV 6) (aCons (cV 3) (aCons (cV 4) (a1 (cL (oJ pC)))))))) (pd 8 (cC (.bl false))))
 (px (c2 (dEq false) (cV 8) (cV 7)))))))))))))
def Mn:=fnD 1 9 Dj
theorem Aq{b q r n:Int}{s2:Sl}(h0:0<b)(h1:b<1073741824):∃d es' ρ,(oK (sIf (vz (cT (c2 CO (c2 dIx (cV 0) (cC (.int 0))) (cC (.int 0))))) (oK (pd 3 (xI (c2 qZ (c2 dIx (cV 0) (cC (.int 0))) (cV 1))))
 (oK (ue 0 0 (xI (c2 vP (c2 dIx (cV 0) (cC (.int 0))) (cV 1))))
 (px (cV 3)))) pf)
 (oK (ue 0 2 (xI (c2 qN (c2 dIx (cV 0) (cC (.int 2))) (cC (.int 1)))))
 (oK (pd 4 (xI (c2 qZ (c2 uE (c2 qN (c2 qN (c2 dIx (cV 0) (cC (.int 1))) (c2 uE (cC (.int 7919)) (c2 dIx (cV 0) (cC (.int 2))))) (cC (.int 1))) (cC (.int 48271))) (cC (.int 2147483647)))))
 (oK (pd 4 (c2 qZ (c2 uE (cV 4) (c2 qN (c2 vP (cV 4) (cC (.int 1009))) (cC (.int 69621)))) (cC (.int 2147483647))))
 (px (c2 qZ (c2 qZ (c2 uE (cV 4) (c2 qN (c2 vP (cV 4) (cC (.int 2003))) (cC (.int 40692)))) (cC (.int 2147483399))) (cV 1)))))))
  [.pm [.int q,.int r,.int n],.im (.int b),s2,.un,.un]=some (.rt (.int d) ρ)/\xE ρ=some es'/\0<=d/\d<b/\qG es':=by
 have hc:vz (cT (c2 CO (c2 dIx (cV 0) (cC (.int 0))) (cC (.int 0)))) [.pm [.int q,.int r,.int n],.im (.int b),s2,.un,.un]=some (decide (0<q),[.pm [.int q,.int r,.int n],.im (.int b),s2,.un,.un]):=rfl;by_cases hq:0<q
 ·rw[aO hq]at hc;refine⟨q % b,[.int (q / b),.int r,.int n],[.pm [.int (q / b),.int r,.int n],.im (.int b),s2,.im (.int (q % b)),.un],?_,rfl,gz _ (by omega),gn _ h0,.inr ⟨_,_,_,rfl⟩⟩;rw[pZ (d:=.int (q % b)) (ρ':=[.pm [.int (q / b),.int r,.int n],.im (.int b),s2,.im (.int (q % b)),.un])];rw[p6 hc,oG (ph (DQ (oV rfl rfl (wC h0)) rfl)),oG (CT (k:=0) (DQ (oV rfl rfl (div_pos h0 h1)) rfl) rfl rfl)];rfl
 ·rw[aU hq]at hc;rw[oG (show _=some (Out.nx [.pm [.int q,.int r,.int n],.im (.int b),s2,.un,.un]) from by rw[p7 hc];rfl)];rw[oG (show _=some (Out.nx [.pm [.int q,.int r,.int (n+1)],.im (.int b),s2,.un,.un]) from rfl)];have h7:va 7919=true:=by decide
  have h4:va 48271=true:=by decide
  rw[oG (ph (DQ (d:=.int ((r+7919 * (n+1)+1) * 48271 % 2147483647)) (oV (oV (oV (oV rfl (oV rfl rfl (uG (.inl h7))) rfl) rfl rfl) rfl (uG (.inr h4))) rfl (wC (by decide))) rfl))];generalize hg:(r+7919 * (n+1)+1) * 48271 % 2147483647=g;have g0:0<=g/\g<2147483647:=by rw[<-hg];exact⟨gz _ (by decide),gn _ (by decide)⟩
  rw[oG (ph (d:=.int (g * (g / 1009+69621) % 2147483647)) (oV (oV rfl (oV (oV rfl rfl (div_pos (by decide) (by decide))) rfl rfl) (uG (.inl (CU g0.1 g0.2)))) rfl (wC (by decide))))];generalize hh:g * (g / 1009+69621) % 2147483647=m;have m0:0<=m/\m<2147483647:=by rw[<-hh];exact⟨gz _ (by decide),gn _ (by decide)⟩
  rw[qf (d:=.int (m * (m / 2003+40692) % 2147483399 % b)) (oV (oV (oV rfl (oV (oV rfl rfl (div_pos (by decide) (by decide))) rfl rfl) (uG (.inl (CU m0.1 m0.2)))) rfl (wC (by decide))) rfl (wC h0))];exact⟨_,[.int q,.int r,.int (n+1)],_,rfl,rfl,gz _ (by omega),gn _ h0,.inr ⟨_,_,_,rfl⟩⟩
variable{es:List L4.D}
theorem I0{b:Int}(h:qG es)(h0:0<b)(h1:b<1073741824):∃d es',o5 es [.int b]=some (.int d,es')/\0<=d/\d<b/\qG es':=by
 rcases h with ⟨c,rfl⟩|⟨q,r,n,rfl⟩
 ·obtain⟨d,es',ρ,e,p,q1,q2,q3⟩:=Aq (q:=c * (if decide ((10:Int) ^ (18:Int).toNat<=c)=true then 1 else 0)) (r:=c % 2147483647) (n:=0) (s2:=.im (.int c)) h0 h1;refine⟨d,es',BS rfl ?_ p,q1,q2,q3⟩;unfold sY;rw[oG (ρ':=[.pm [.int (c * (if decide ((10:Int) ^ (18:Int).toNat<=c)=true then 1 else 0)),.int (c % 2147483647),.int 0],.im (.int b),.im (.int c),.un,.un])]
  ·exact e
  ·show sIf _ _ _ [.pm [.int c],.im (.int b),.un,.un,.un]=_;rw[p6 (ρ':=[.pm [.int c],.im (.int b),.un,.un,.un]) rfl,oG (show _=some (Out.nx [.pm [.int c],.im (.int b),.im (.int c),.un,.un]) from rfl)];rw[oG (CT (k:=0) (ds:=[.int c]) (oV rfl rfl (uG (.inr (by split<;>decide)))) rfl rfl)];rfl
 ·obtain⟨d,es',ρ,e,p,q1,q2,q3⟩:=Aq (q:=q) (r:=r) (n:=n) (s2:=.un) h0 h1;refine⟨d,es',BS rfl ?_ p,q1,q2,q3⟩;unfold sY;rw[oG (ρ':=[.pm [.int q,.int r,.int n],.im (.int b),.un,.un,.un])]
  ·exact e
  ·show sIf _ _ _ [.pm [.int q,.int r,.int n],.im (.int b),.un,.un,.un]=_;rw[p7 (ρ':=[.pm [.int q,.int r,.int n],.im (.int b),.un,.un,.un]) rfl];rfl
variable{i:Nat}{a:FE}
theorem dgx{b:Int}(st:List L4.D->List Sl)(hp:∀es,qL (st es) i=some es)(hq:∀es es',putAt (st es) i es'=st es')(ha:a (st es)=some (.int b,st es))(hs:qG es)(h0:0<b)(h1:b<1073741824):∃d es',pJ o5 i (a1 a) (st es)=some (.int d,st es')/\0<=d/\d<b/\qG es':=by obtain⟨d,es',e,q1,q2,q3⟩:=I0 hs h0 h1;exact⟨d,es',by rw[<-hq es es'];exact Ia (hp es) (oR ha rfl) (hp es) e,q1,q2,q3⟩
variable{e:FE}
theorem pk{L:List L4.D}(st:List L4.D->List Sl)(hp:∀es,qL (st es) i=some es)(hq:∀es es',putAt (st es) i es'=st es')(he:e (st es)=some (.lst L,st es))(ha:a (st es)=some (.int L.length,st es))(hs:qG es)(h0:L≠[])(h1:L.length<=1000):∃d∈L,∃es',c2 dIx e (pJ o5 i (a1 a)) (st es)=some (d,st es')/\qG es':=by
 have hp0:0<L.length:=List.length_pos_iff.mpr h0;obtain⟨d,es',e1,q1,q2,q3⟩:=dgx st hp hq ha hs (by omega) (by omega);obtain⟨m,rfl⟩:=cZ q1;have hm:m<L.length:=by omega
 exact⟨L[m],fG hm,es',oV he e1 (uT (aQ hm)),q3⟩
variable{q:List L4.D->Option Bool}
section
variable{k:Nat}{cap:List Nat}{g:FG}{ft:FT}{fe e:FE}{s a:FA}{ρ ρ1 ρ2:List Sl}{α:Type}{f f2:FS}{np n:Nat}{ds:List L4.D}
theorem qc{m:L4.D}(h:e ρ=some (.bl true,ρ1)):sXp oI (aCons e (aCons (cC m) pC)) ρ=some (.nx ρ1):=by unfold sXp;rw[oR h (oR rfl rfl)];rfl
theorem uP{m:L4.D}(h:e ρ=some (.bl false,ρ1)):sXp oI (aCons e (aCons (cC m) pC)) ρ=some (.bk ρ1):=by unfold sXp;rw[oR h (oR rfl rfl)];rfl
theorem y4(h:f ρ=some (.bk ρ1)):oK f f2 ρ=some (.bk ρ1):=by unfold oK;rw[h]
theorem q8(h:f ρ=some (.nx ρ1)):sNb f ρ=some (.nx ρ1):=by unfold sNb;rw[h]
theorem D6(h:ds.length=np)(e:f (stE n ds)=some (.nx ρ)):fnX np n f ds=some true:=by unfold fnX;rw[ah h,e]
theorem yC(h:ds.length=np)(e:f (stE n ds)=some (.bk ρ)):fnX np n f ds=some false:=by unfold fnX;rw[ah h,e]
theorem RA(h:a ρ=some (ds,ρ1))(e:q ds=some true):sXp q a ρ=some (.nx ρ1):=by unfold sXp;rw[h];simp only[e]
theorem RD(h:a ρ=some (ds,ρ1))(e:q ds=some false):sXp q a ρ=some (.bk ρ1):=by unfold sXp;rw[h];simp only[e]
theorem uc(dd h:α->L4.D)(l:List α)(hs:s ρ=some (l.map dd,ρ1))(hl:l.length<=1000)(st:∀a∈l,∃ρ2 ρ3,g (dd a) (yp k cap ρ1)=some ρ2/\fe ρ2=some (h a,ρ3)/\rN cap (ρ3.drop k) ρ1=some ρ1):
  oT k cap s g pF fe ρ=some (l.map h,ρ1):=(wz hs (by rw[ag];exact hl)).trans (La dd h l st)
theorem qI(dd h:α->L4.D)(p:α->Bool)(l:List α)(hs:s ρ=some (l.map dd,ρ1))(hl:l.length<=1000)
  (st:∀a∈l,∃ρ2 ρ3,g (dd a) (yp k cap ρ1)=some ρ2/\ft ρ2=some (p a,ρ3)/\(p a=true->∃ρ4,fe ρ3=some (h a,ρ4)/\rN cap (ρ4.drop k) ρ1=some ρ1)/\(p a=false->rN cap (ρ3.drop k) ρ1=some ρ1)):
  oT k cap s g ft fe ρ=some ((l.filter p).map h,ρ1):=(wz hs (by rw[ag];exact hl)).trans (z7 dd p h l st)
theorem qJ(dd:α->L4.D)(p:α->Bool)(l:List α)(hs:s ρ=some (l.map dd,ρ1))(hl:l.length<=1000)(st:∀a∈l,∃ρ2 ρ3,g (dd a) (yp k cap ρ1)=some ρ2/\fe ρ2=some (.bl (p a),ρ3)/\rN cap (ρ3.drop k) ρ1=some ρ1):
  c1 qW (cL (oT k cap s g pF fe)) ρ=some (.bl (l.all p),ρ1):=pb (pL (uc dd (λa=>.bl (p a)) l hs hl st)) (Lc l p)
theorem E6(dd:α->L4.D)(p:α->Bool)(l:List α)(hs:s ρ=some (l.map dd,ρ1))(hl:l.length<=1000)(st:∀a∈l,∃ρ2 ρ3,g (dd a) (yp k cap ρ1)=some ρ2/\fe ρ2=some (.bl (p a),ρ3)/\rN cap (ρ3.drop k) ρ1=some ρ1):
  c1 zY (cL (oT k cap s g pF fe)) ρ=some (.bl (l.any p),ρ1):=pb (pL (uc dd (λa=>.bl (p a)) l hs hl st)) (Ld l p)
end
theorem B6{α:Type}{l:List α}{p:α->Bool}(h:∀a∈l,p a=true):l.all p=true:=aD.mpr h
def isT:Option L4.D->Bool
 |some (.bl b)=>b
 |_=>false
def isB:Option L4.D->Bool
 |some (.bl _)=>true
 |_=>false
variable{o:Option L4.D}
theorem Ja(h:isB o=true):o=some (.bl (isT o)):=by
 unfold isB at h;split at h
 ·rfl
 ·cases h
theorem PR(h:isT o=true):o=some (.bl true):=by
 unfold isT at h;split at h
 ·rw[h]
 ·cases h
inductive Kd where
 |room|you|plain|fixed|box|lamp
deriving DecidableEq
def Kd.s:Kd->Str
 |.room=>"room" |.you=>"you" |.plain=>"plain" |.fixed=>"fixed" |.box=>"box" |.lamp=>"lamp"
def Kd.pl:Kd->Bool
 |.room=>false|.you=>false|_=>true
def Kd.hd:Kd->Bool
 |.room=>true|.you=>true|.box=>true|_=>false
def Kd.mk:Kd->Bool
 |.box=>true|.lamp=>true|_=>false
structure Tk where
 n:L4.D
 w:L4.D
 k:Kd
 s:L4.D
def tkD(t:Tk):L4.D:=.obj 0 ["name", "words", "kind", "start"] [t.n,t.w,.str t.k.s,t.s]
abbrev LD(T:List Tk):L4.D:=.lst (T.map tkD)
theorem sT(a b:Kd):dEq false (.str a.s) (.str b.s)=some (.bl (decide (a=b))):=by cases a<;>cases b<;>kernel_rfl
theorem qB(t:Tk):oH oU "kind" (tkD t)=some (.str t.k.s):=rfl
theorem rD(t:Tk):oH oQ "name" (tkD t)=some t.n:=rfl
theorem ud(t:Tk):oH pj "words" (tkD t)=some t.w:=rfl
theorem wH(t:Tk):oH oY "start" (tkD t)=some t.s:=rfl
theorem Lv(t:Tk):uM [tkD t]=some (.bl t.k.hd):=by obtain⟨n,w,k,s⟩:=t;cases k<;>kernel_rfl
theorem E7(t:Tk):uO [tkD t]=some (.bl t.k.mk):=by obtain⟨n,w,k,s⟩:=t;cases k<;>kernel_rfl
theorem Jb(t:Tk):tL [tkD t]=some (.bl t.k.pl):=by obtain⟨n,w,k,s⟩:=t;cases k<;>kernel_rfl
theorem Lx(k:Kd):pq [.str k.s,B5]=some (.bl true):=by cases k<;>kernel_rfl
def cK(k:Kd)(T:List Tk):Nat:=(T.filter λt=>decide (t.k=k)).length
def plN(T:List Tk):List Tk:=T.filter λt=>t.k.pl
theorem count_eq(T:List Tk)(hl:T.length<=1000)(k:Kd):tN [LD T,.str k.s]=some (.int (cK k T)):=by refine pX (ρ:=[.im (LD T),.im (.str k.s)]) rfl ?_;refine qf (pb (pL (qI tkD tkD (λt=>decide (t.k=k)) T (ρ1:=[.im (LD T),.im (.str k.s)]) rfl hl λt _=>⟨[.im (tkD t),.im (.str k.s)],[.im (tkD t),.im (.str k.s)],rfl,pQ (oV (pb rfl (qB t)) rfl (sT t.k k)),λ_=>⟨_,rfl,rfl⟩,λ_=>rfl⟩)) ?_);show some (D.int _)=_;rw[ag];rfl
theorem uz(T:List Tk)(hl:T.length<=1000):qx [LD T]=some ((plN T).map tkD):=by refine BU (ρ:=[.im (LD T)]) rfl ?_;exact wx (qI tkD tkD (λt=>t.k.pl) T (ρ1:=[.im (LD T)]) rfl hl λt _=>⟨[.im (tkD t)],[.im (tkD t)],rfl,pQ (wF (xs:=[t.n,t.w,.str t.k.s,t.s]) (ys:=[]) rfl rfl rfl rfl (Jb t)),λ_=>⟨_,rfl,rfl⟩,λ_=>rfl⟩)
variable{ρ:List Sl}{y:Int}
theorem Mo{b:FE}{x:Int}(h1:a ρ=some (.int x,ρ))(h2:b ρ=some (.int y,ρ))(hx:x<=y):c2 sG a b ρ=some (.bl true,ρ):=oV h1 h2 (by
 show some (D.bl (decide (x<=y)))=_;rw[aO hx])
theorem wo{α:Type}{p q:α->Bool}:∀{l:List α},(∀a∈l,p a=q a)->l.all p=l.all q
 |[],_=>rfl
 |a::l,h=>by rw[cq,cq,h a aG,wo λb hb=>h b (aH _ hb)]
def kS(x:Str):Key:=Sum.inr x
theorem B7{a b:Str}(h:kS a=kS b):a=b:=gR h
theorem D7:∀(ks acc:List Key),acc.Nodup->(ks.foldl ddp acc).Nodup/\(ks.foldl ddp acc).length<=acc.length+ks.length/\((ks.foldl ddp acc).length=acc.length+ks.length->(acc++ks).Nodup)
 |[],acc,h=>⟨h,aC _,λ_=>by rw[bH];exact h⟩
 |k::ks,acc,h=>by
  rw[cA,aA];by_cases hn:acc.any (λz=>decide (z=k))=true
  ·rw[show ddp acc k=acc from ah hn];obtain⟨h1,h2,h3⟩:=D7 ks acc h;exact⟨h1,by omega,λz=>by omega⟩
  ·rw[show ddp acc k=acc++[k] from ai hn];have hk:k∉acc:=λz=>hn (cN.mpr ⟨k,z,aO rfl⟩);have h':(acc++[k]).Nodup:=bR.mpr ⟨h,by simp,λa ha b hb e=>by rw[bb]at hb;subst hb e;exact hk ha⟩;obtain⟨h1,h2,h3⟩:=D7 ks (acc++[k]) h';rw[au,bf]at h2 h3;exact⟨h1,by omega,λz=>by have:=h3 (by omega);rw[bJ]at this;exact this⟩
theorem Bh:∀l:List Str,wR (l.map D.str)=some (l.map kS)
 |[]=>rfl
 |x::l=>by show (match wK (.str x),wR (l.map D.str)with|some k,some ks=>some (k::ks)|_,_=>none)=_;rw[Bh l];rfl
variable{l:List Str}
theorem RE(h:(l.map kS).Nodup):l.Nodup:=(kO.mp h).imp λhne z=>hne (aX kS z)
theorem Gj(h:¬l.Nodup)(hl:l.length<=1000):∃m:Nat,m<l.length/\qv (l.map D.str)=some (.int m):=by
 obtain⟨h1,h2,h3⟩:=D7 (l.map kS) [] gB;rw[ag,bg,eJ]at h2 h3;refine⟨(tG (l.map kS)).length,?_,?_⟩
 ·rcases kF h2 with z|z
  ·exact z
  ·exact ao (RE (h3 z)) h
 ·unfold qv;rw[Bh];simp only;rw[ah (by rw[ag];exact hl)]
theorem xk(hl:l.length<=1000):pK [.lst (l.map D.str)]=some (.bl (decide l.Nodup)):=by
 refine pX (ρ:=[.im (.lst (l.map D.str))]) rfl ?_;have el:c1 rG (cV 0) [.im (.lst (l.map D.str))]=some (.int l.length,[.im (.lst (l.map D.str))]):=pb rfl (by show some (D.int _)=_;rw[ag]);by_cases h:l.Nodup
 ·refine qf (oV (x:=.int l.length) (y:=.int l.length) (pb rfl (ES (De h hl))) el ?_);rw[wD];simp[h]
 ·obtain⟨m,h1,h2⟩:=Gj h hl;refine qf (oV (x:=.int m) (y:=.int l.length) (pb rfl (ES h2)) el ?_);rw[wD];simp[h];omega
structure Mk where
 n:Str
 st:Int
 mo:Int
def mkD(m:Mk):L4.D:=.obj 1 ["name", "start", "most"] [.str m.n,.int m.st,.int m.mo]
abbrev MD(M:List Mk):L4.D:=.lst (M.map mkD)
theorem zk(m:Mk):oH oQ "name" (mkD m)=some (.str m.n):=rfl
def nS:L4.D->Str
 |.str x=>x
 |_=>""
def Tk.m(t:Tk):Str:=nS t.n
def isIn(d:L4.D)(l:List Str):Bool:=match d with
 |.str x=>decide (x∈l)
 |_=>false
def sOk:L4.D->Bool
 |.str _=>true
 |.non=>true
 |.int _=>true
 |.bl _=>true
 |.tup _=>true
 |_=>false
def vv:L4.D->Bool
 |.non=>true
 |_=>false
theorem yD{d:L4.D}(h:sOk d=true)(l:List Str):pq [d,.lst (l.map D.str)]=some (.bl (isIn d l)):=by
 cases d with
 |str x=>refine pX (ρ:=[.im (.str x),.im (.lst (l.map D.str))]) rfl ?_;refine qf ((qj rfl).trans (oV rfl rfl ?_));rw[qb];rfl
 |non=>rfl
 |int i=>rfl
 |bl i=>rfl
 |tup i=>rfl
 |_=>cases h
def rmN(T:List Tk):List Str:=(T.filter λt=>decide (t.k=.room)).map Tk.m
def hdN(T:List Tk):List Str:=(T.filter λt=>t.k.hd).map Tk.m
def stB(T:List Tk)(t:Tk):Bool:=match t.k with
 |.room=>vv t.s
 |.you=>isIn t.s (rmN T)
 |_=>isIn t.s (hdN T)
variable{T:List Tk}
theorem zl(p:Tk->Bool)(hn:∀t∈T,t.n=.str t.m):(T.filter p).map Tk.n=((T.filter p).map Tk.m).map D.str:=by rw[bx];exact iC λt ht=>hn t (bu.mp ht).1
variable{t:Tk}
section
variable{T:List Tk}(hl:T.length<=900)(hn:∀t∈T,t.n=.str t.m)
include hl hn
theorem Ar(hi:cV i ρ=some (LD T,ρ)):oT 1 [] (iL (cV i)) (gN 0) (cT (c2 (dEq false) (c1 (oH oU "kind") (cV 0)) (cC (.str "room")))) (c1 (oH oQ "name") (cV 0)) ρ=some ((rmN T).map D.str,ρ):=by
 have hs:iL (cV i) ρ=some (T.map tkD,ρ):=by unfold iL;rw[hi]
 refine(qI (k:=1) (cap:=[]) (g:=gN 0) (ft:=cT (c2 (dEq false) (c1 (oH oU "kind") (cV 0)) (cC (.str "room")))) (fe:=c1 (oH oQ "name") (cV 0)) tkD Tk.n (λt=>decide (t.k=.room)) T hs (by omega) λt _=>
  ⟨[.im (tkD t)],[.im (tkD t)],rfl,pQ (oV (pb rfl (qB t)) rfl (sT t.k .room)),λ_=>⟨_,pb rfl (rD t),rfl⟩,λ_=>rfl⟩).trans ?_
 rw[zl _ hn];rfl
theorem D8(hi:cV i ρ=some (LD T,ρ)):oT 1 [] (iL (cV i)) (gN 0) (cT (rE qT "can_hold" (cV 0) pC)) (c1 (oH oQ "name") (cV 0)) ρ=some ((hdN T).map D.str,ρ):=by
 have hs:iL (cV i) ρ=some (T.map tkD,ρ):=by unfold iL;rw[hi]
 refine(qI (k:=1) (cap:=[]) (g:=gN 0) (ft:=cT (rE qT "can_hold" (cV 0) pC)) (fe:=c1 (oH oQ "name") (cV 0)) tkD Tk.n (λt=>t.k.hd) T hs (by omega) λt _=>
  ⟨[.im (tkD t)],[.im (tkD t)],rfl,pQ (wF (xs:=[t.n,t.w,.str t.k.s,t.s]) (ys:=[]) rfl rfl rfl rfl (Lv t)),λ_=>⟨_,pb rfl (rD t),rfl⟩,λ_=>rfl⟩).trans ?_
 rw[zl _ hn];rfl
theorem y6(hs:sOk t.s=true):xh [LD T,tkD t]=some (.bl (stB T t)):=by
 let ρ:List Sl:=[.im (LD T),.im (tkD t)];refine pX (ρ:=ρ) rfl ?_;unfold xg;have k1:cT (c2 (dEq false) (c1 (oH oU "kind") (cV 1)) (cC (.str "room"))) ρ=some (decide (t.k=.room),ρ):=pQ (oV (ρ1:=ρ) (ρ2:=ρ) (pb rfl (qB t)) rfl (sT t.k .room));have k2:cT (c2 (dEq false) (c1 (oH oU "kind") (cV 1)) (cC (.str "you"))) ρ=some (decide (t.k=.you),ρ):=pQ (oV (ρ1:=ρ) (ρ2:=ρ) (pb rfl (qB t)) rfl (sT t.k .you));by_cases h1:t.k=.room
 ·rw[aO h1]at k1;refine pZ ((p6 k1).trans (qf (oV (ρ1:=ρ) (x:=t.s) (y:=.non) (pb rfl (wH t)) rfl ?_)));unfold stB;rw[h1];generalize t.s=d at hs ⊢;cases d with
  |str x=>rfl
  |non=>rfl
  |int i=>rfl
  |bl i=>rfl
  |tup i=>rfl
  |_=>cases hs
 ·rw[aU h1]at k1;refine(oG (ρ':=ρ) ((p7 k1).trans rfl)).trans ?_;by_cases h2:t.k=.you
  ·rw[aO h2]at k2;refine pZ ((p6 k2).trans (qf ((oX (oR (pb rfl (wH t)) (oR (pL (Ar hl hn rfl)) rfl)) (yD hs (rmN T))).trans ?_)));unfold stB;rw[h2]
  ·rw[aU h2]at k2;refine(oG (ρ':=ρ) ((p7 k2).trans rfl)).trans ?_;refine qf ((oX (oR (pb rfl (wH t)) (oR (pL (D8 hl hn rfl)) rfl)) (yD hs (hdN T))).trans ?_);unfold stB;generalize t.k=k at h1 h2 ⊢;cases k with
   |room=>exact ao rfl h1
   |you=>exact ao rfl h2
   |_=>rfl
end
def nK(T:List Tk):List Key:=T.map λt=>kS t.m
def stD(T:List Tk):L4.D:=.dic (nK T) (T.map Tk.s)
theorem Bi(h:(T.map Tk.m).Nodup):(nK T).Nodup:=by have:=A5 h;rw[bx]at this;exact this
theorem E8(h:(T.map Tk.m).Nodup)(ht:t∈T):r6 (nK T) (T.map Tk.s) (kS t.m)=some t.s:=by refine z9 (Bi h) ?_;unfold nK;rw[me];exact cM (f:=λt=>(kS t.m,t.s)) ht
variable{ks:List Key}{ds:List L4.D}{x:Str}
theorem Dk{fk fv:FE}{d:L4.D}(h1:fv ρ=some (d,ρ))(h2:ρ[i]?=some (.dk ks ds))(h3:fk ρ=some (.str x,ρ))(hn:kS x∉ks)(hl:ks.length<1000)(he:ds.length=ks.length):
  rQ i fk fv ρ=some (.nx (ρ.set i (.dk (ks++[kS x]) (ds++[d])))):=by
 have hk:zb ks (kS x)=false:=by unfold zb;rw[gq];intro z;obtain⟨y,hy,ey⟩:=cN.mp z;exact hn (by rw[<-bC ey];exact hy)
 unfold rQ;rw[h1];simp only[h2,h3];rw[show wK (.str x)=some (kS x) from rfl];simp only;rw[ah hl,ah he,hk];rfl
section
variable{α:Type}{g:FG}{i:Nat}{fk fv:FE}
theorem tu(dd:α->L4.D)(kf:α->Str)(vf:α->L4.D)(st:List Key->List L4.D->Sl->List Sl)(A:List α)
  (hs:∀a∈A,∀(ks:List Key) (ds:List L4.D) (s:Sl),∃ρ1,g (dd a) (st ks ds s)=some ρ1/\fv ρ1=some (vf a,ρ1)/\ρ1[i]?=some (.dk ks ds)/\fk ρ1=some (.str (kf a),ρ1)/\∀ks' ds',∃s',ρ1.set i (.dk ks' ds')=st ks' ds' s'):
  ∀(l:List α) (ks:List Key) (ds:List L4.D) (s:Sl),(∀a∈l,a∈A)->(ks++l.map λa=>kS (kf a)).Nodup->ks.length+l.length<=1000->ds.length=ks.length->
   ∃s',forL g (rQ i fk fv) (l.map dd) (st ks ds s)=some (.nx (st (ks++l.map λa=>kS (kf a)) (ds++l.map vf) s'))
 |[],ks,ds,s,_,_,_,_=>⟨s,by rw[eM,eM,eM,bH,bH];rfl⟩
 |a::l,ks,ds,s,hA,nd,hl,he=>by
  obtain⟨ρ1,h1,h2,h3,h4,h5⟩:=hs a (hA a aG) ks ds s;obtain⟨s1,h6⟩:=h5 (ks++[kS (kf a)]) (ds++[vf a]);rw[aA]at hl;have nd':((ks++[kS (kf a)])++l.map λa=>kS (kf a)).Nodup:=by rw[bJ];exact nd
  have hn:kS (kf a)∉ks:=λz=>by rw[bR]at nd;exact nd.2.2 _ z _ (by rw[aF];exact aG) rfl
  obtain⟨s',h7⟩:=tu dd kf vf st A hs l (ks++[kS (kf a)]) (ds++[vf a]) s1 (λb hb=>hA b (aH _ hb)) nd' (by rw[au,bf];omega) (by rw[au,au,he,bf,bf]);refine⟨s',?_⟩;rw[aF];unfold forL;rw[h1];simp only[Dk h2 h3 h4 hn (by omega) he,h6];rw[h7,aF,aF,bJ,bJ];rfl
end
def cB:FS:=oK (sIf (cT (c2 vc (cV 2) (cC D.non))) (px (cC (.bl true))) pf) (pd 2 (c2 qQ (cV 0) (cV 2)))
variable{u:Tk}
section
variable{T:List Tk}(hl:T.length<=900)(nd:(T.map Tk.m).Nodup)
include hl nd
theorem Gk(ht:t∈T):(∀ρ,forL (gN 3) cB (wJ 0 T.length) [.im (stD T),.im (.str t.m),.im t.s,.un]=some (.rt (.bl true) ρ)->pU [stD T,.str t.m]=some (.bl true))/\
  (∀(d:L4.D) (b:Bool) (s:Sl),vc d .non=some (.bl b)->forL (gN 3) cB (wJ 0 T.length) [.im (stD T),.im (.str t.m),.im t.s,.un]=some (.nx [.im (stD T),.im (.str t.m),.im d,s])->pU [stD T,.str t.m]=some (.bl b)):=by
 have e0:pd 2 (c2 qQ (cV 0) (cV 1)) [.im (stD T),.im (.str t.m),.un,.un]=some (.nx [.im (stD T),.im (.str t.m),.im t.s,.un]):=(ph (oV rfl rfl (E8 nd ht))).trans rfl;have e1:iR1 (c1 rG (cV 0)) [.im (stD T),.im (.str t.m),.im t.s,.un]=some (wJ 0 T.length,[.im (stD T),.im (.str t.m),.im t.s,.un]):=by unfold iR1;rw[show c1 rG (cV 0) [.im (stD T),.im (.str t.m),.im t.s,.un]=some (.int T.length,[.im (stD T),.im (.str t.m),.im t.s,.un]) from pb rfl (by show some (D.int _)=_;unfold nK;rw[ag])];simp only;rw[ah (by omega),gp]
 constructor
 ·intro ρ q;refine pX (ρ:=ρ) rfl ?_;exact(oG e0).trans (pZ ((pW e1).trans q))
 ·intro d b s hd q;refine pX (ρ:=[.im (stD T),.im (.str t.m),.im d,s]) rfl ?_;exact(oG e0).trans ((oG ((pW e1).trans q)).trans (qf (oV rfl rfl hd)))
theorem RF{a:Sl}{s:Sl}(hu:u∈T):cB [.im (stD T),a,.im (.str u.m),s]=some (.nx [.im (stD T),a,.im u.s,s]):=
 (oG (ρ':=[.im (stD T),a,.im (.str u.m),s]) rfl).trans ((ph (oV rfl rfl (E8 nd hu))).trans rfl)
end
section
variable{T:List Tk}(hl:T.length<=900)(hn:∀t∈T,t.n=.str t.m)(hs:∀t∈T,sOk t.s=true)
include hl hn hs
theorem PU(h:T.all (stB T)=false):qV [LD T]=some false:=by refine yC (ρ:=[.im (LD T),.un,.un]) rfl ?_;unfold qU;exact y4 (uP (ρ1:=[.im (LD T),.un,.un]) ((qJ tkD (stB T) T rfl (by omega) λt ht=>⟨[.im (tkD t),.im (LD T)],[.im (tkD t),.im (LD T)],rfl,oX rfl (y6 hl hn (hs t ht)),rfl⟩).trans (by rw[h];rfl)))
theorem PV(nd:(T.map Tk.m).Nodup)(h:T.all (stB T)=true)(c:Tk->Bool)(hc:∀t∈T,pU [stD T,.str t.m]=some (.bl (c t))):qV [LD T]=some (T.all c):=by
 obtain⟨s',e1⟩:=tu (g:=gN 2) (i:=1) (fk:=c1 (oH oQ "name") (cV 2)) (fv:=c1 (oH oY "start") (cV 2)) tkD Tk.m Tk.s (λks ds s=>[.im (LD T),.dk ks ds,s]) T
  (λt ht ks ds s=>⟨[.im (LD T),.dk ks ds,.im (tkD t)],rfl,pb rfl (wH t),rfl,pb rfl ((rD t).trans (by rw[hn t ht])),λks' ds'=>⟨_,rfl⟩⟩) T [] [] .un (λ_ h=>h) (by rw[bM];exact Bi nd) (by simp;omega) rfl
 have src:iD (cFz 1) [.im (LD T),.dk ([]++T.map λa=>kS a.m) ([]++T.map Tk.s),s']=some ((T.map λt=>D.str t.m),[.im (LD T),.im (stD T),s']):=by rw[bM,bM];unfold iD;rw[show cFz 1 [.im (LD T),.dk (T.map λa=>kS a.m) (T.map Tk.s),s']=some (stD T,[.im (LD T),.im (stD T),s']) from rfl];show (if (nK T).length=(T.map Tk.s).length then some ((nK T).map N7,_)else none)=_;unfold nK;rw[ah (by rw[ag,ag]),bx];rfl
 have ec:c1 qW (cL (oT 1 [1] (iD (cFz 1)) (gN 0) pF (oP pU (aCons (cV 1) (a1 (cV 0)))))) [.im (LD T),.dk ([]++T.map λa=>kS a.m) ([]++T.map Tk.s),s']=some (.bl (T.all c),[.im (LD T),.im (stD T),s']):=
  qJ (λt:Tk=>D.str t.m) c T src (by omega) λt ht=>⟨[.im (.str t.m),.im (stD T)],[.im (.str t.m),.im (stD T)],rfl,oX rfl (hc t ht),rfl⟩
 have hd:∀{o:Out},sXp oI (aCons (c1 qW (cL (oT 1 [1] (iD (cFz 1)) (gN 0) pF (oP pU (aCons (cV 1) (a1 (cV 0))))))) (a1 (cS "a thing starts within itself"))) [.im (LD T),.dk ([]++T.map λa=>kS a.m) ([]++T.map Tk.s),s']=some o->qU [.im (LD T),.un,.un]=some o:=λ{o} q=>by unfold qU;refine(oG (qc (ρ1:=[.im (LD T),.un,.un]) ((qJ tkD (stB T) T rfl (by omega) λt ht=>⟨[.im (tkD t),.im (LD T)],[.im (tkD t),.im (LD T)],rfl,oX rfl (y6 hl hn (hs t ht)),rfl⟩).trans (by rw[h])))).trans ?_;refine(oG (ρ':=[.im (LD T),.dk [] [],.un]) rfl).trans ?_;exact(oG (q8 ((pW rfl).trans e1))).trans q
 cases hb:T.all c with
 |true=>rw[hb]at ec;exact D6 rfl (hd (qc ec))
 |false=>rw[hb]at ec;exact yC rfl (hd (uP ec))
end
def taB(h:Tk->Tk->Bool)(P:List Tk)(t:Tk):Bool:=!(P.filter λu=>!decide (u.m=t.m)).any λu=>h u t
section
variable{T:List Tk}(hl:T.length<=900)
include hl
theorem Ly{P:List Tk}(hP:P.length<=900)(hn:∀t∈P,t.n=.str t.m)(h:Tk->Tk->Bool)(ht:t∈P)(hh:∀u∈P,tp [u.w,t.w]=some (.bl (h u t))):qH [LD P,tkD t]=some (.bl (taB h P t)):=by
 let O:=P.filter λu=>!decide (u.m=t.m);let ρ:List Sl:=[.im (LD P),.im (tkD t),.im (LD O)];have hO:O.length<=900:=bp (dP _ _) hP;refine pX (ρ:=ρ) rfl ?_;unfold sL;refine(oG (ρ':=ρ) ((ph (pL (qI tkD tkD (λu=>!decide (u.m=t.m)) P (ρ1:=[.im (LD P),.im (tkD t),.un]) rfl (by omega) λu hu=>⟨[.im (tkD u),.im (tkD t)],[.im (tkD u),.im (tkD t)],rfl,pQ (oV (x:=.str u.m) (y:=.str t.m) (pb rfl ((rD u).trans (by rw[hn u hu]))) (pb rfl ((rD t).trans (by rw[hn t ht]))) (rh true u.m t.m)),λ_=>⟨_,rfl,rfl⟩,λ_=>rfl⟩))).trans rfl)).trans ?_;have e:c1 zY (cL (oT 1 [1] (iL (cV 2)) (gN 0) pF (oP tp (aCons (c1 (oH pj "words") (cV 0)) (aCons (c1 (oH pj "words") (cV 1)) pC))))) ρ=some (.bl (O.any λu=>h u t),ρ):=
  E6 tkD (λu=>h u t) O rfl (by omega) λu hu=>⟨[.im (tkD u),.im (tkD t)],[.im (tkD u),.im (tkD t)],rfl,oX (oR (pb rfl (ud u)) (oR (pb rfl (ud t)) rfl)) (hh u (bu.mp hu).1),rfl⟩
 refine qf ?_;unfold BN;rw[e];rfl
theorem PX(p:Tk->Bool)(hp:∀t∈T,pV [t.w]=some (.bl (p t))):(T.all p=false->pP [LD T]=some false)/\
  (T.all p=true->(∀t∈T,t.n=.str t.m)->∀h:Tk->Tk->Bool,(∀t∈plN T,∀u∈plN T,tp [u.w,t.w]=some (.bl (h u t)))->pP [LD T]=some ((plN T).all (taB h (plN T)))):=by
 let ρ0:List Sl:=[.im (LD T),.un];have ea:c1 qW (cL (oT 1 [] (iL (cV 0)) (gN 0) pF (oP pV (a1 (c1 (oH pj "words") (cV 0)))))) ρ0=some (.bl (T.all p),ρ0):=qJ tkD p T rfl (by omega) λt ht=>⟨[.im (tkD t)],[.im (tkD t)],rfl,oX (oR (pb rfl (ud t)) rfl) (hp t ht),rfl⟩;constructor
 ·intro h;rw[h]at ea;refine yC (ρ:=ρ0) rfl ?_;unfold pO;exact y4 (uP ea)
 ·intro h hn hh hq;rw[h]at ea;let P:=plN T;have hP:P.length<=900:=bp (dP _ _) hl;have hnP:∀t∈P,t.n=.str t.m:=λt ht=>hn t (bu.mp ht).1;let ρ:List Sl:=[.im (LD T),.im (LD P)];have eb:c1 qW (cL (oT 1 [1] (iL (cV 1)) (gN 0) pF (oP qH (aCons (cV 1) (a1 (cV 0)))))) ρ=some (.bl (P.all (taB hh P)),ρ):=qJ tkD (taB hh P) P rfl (by omega) λt ht=>⟨[.im (tkD t),.im (LD P)],[.im (tkD t),.im (LD P)],rfl,oX rfl (Ly hl hP hnP hh ht λu hu=>hq t ht u hu),rfl⟩;have hd:∀{o:Out},sXp oI (aCons (c1 qW (cL (oT 1 [1] (iL (cV 1)) (gN 0) pF (oP qH (aCons (cV 1) (a1 (cV 0))))))) (a1 (cS "one thing has all words of another"))) ρ=some o->pO ρ0=some o:=λ{o} q=>by unfold pO;refine(oG (qc ea)).trans ?_;exact(oG (ρ':=ρ) (q8 ((ph (pL (oX rfl (uz T (by omega))))).trans rfl))).trans q
  cases hb:P.all (taB hh P)with
  |true=>rw[hb]at eb;exact D6 rfl (hd (qc eb))
  |false=>rw[hb]at eb;exact yC rfl (hd (uP eb))
end
def vb(n f:Str)(j:L4.D):L4.D:=.obj 2 ["name", "others", "form", "joining"] [.str n,.tup [],.str f,j]
def v9:List L4.D:=[vb "take" "one" .non,vb "drop" "one" .non,vb "open" "one" .non,vb "shut" "one" .non,vb "light" "one" .non,vb "douse" "one" .non,vb "put" "two" (.str "in"),vb "go" "way" .non,vb "wait" "alone" .non]
theorem Mp:rW []=some v9:=by kernel_rfl
structure Th where
 n:Str
 w:List Str
 k:Kd
 s:Option Str
def oS:Option Str->L4.D
 |none=>.non
 |some x=>.str x
def Th.tk(t:Th):Tk:=⟨.str t.n,.tup (t.w.map D.str),t.k,oS t.s⟩
def thD(t:Th):L4.D:=tkD t.tk
abbrev TD(T:List Th):L4.D:=.lst (T.map thD)
def Th.nw(t:Th):Str×List Str:=(t.n,t.w)
theorem RG(T:List Th):TD T=LD (T.map Th.tk):=by show D.lst _=D.lst _;rw[bx];rfl
theorem D9(k:Nat)(h:k<=ds.length):cutD ds none (some (k:Int))=ds.take k:=by unfold cutD;rw[HT.GV,HT.JT,Nat.min_eq_left h,List.drop_zero,Nat.sub_zero]
theorem RH(n:Nat):wJ 0 n=(aT n).map λk:Nat=>D.int (k:Nat):=by unfold wJ;simp
theorem Ea{P:Kd->Prop}(h1:P .room)(h2:P .you)(h3:P .plain)(h4:P .fixed)(h5:P .box)(h6:P .lamp):∀k,P k:=λk=>by cases k<;>assumption
variable{ρ1:List Sl}
theorem Bj{n:Nat}(h:e ρ=some (.int (n:Nat),ρ1))(hn:n<=100):iR1 e ρ=some ((aT n).map λk:Nat=>D.int (k:Nat),ρ1):=by unfold iR1;rw[h];dsimp only;rw[ah (by omega),gp,RH]
variable{ρ2 ρ3:List Sl}
theorem PY{lo hi:FO}{l u:Option Int}(h1:e ρ=some (.lst ds,ρ1))(h2:lo ρ1=some (l,ρ2))(h3:hi ρ2=some (u,ρ3)):xa e lo hi ρ=some (cutD ds l u,ρ3):=by unfold xa;rw[h1];simp only[h2,h3]
theorem PZ{i:Int}(h:e ρ=some (.int i,ρ1)):oAt e ρ=some (some i,ρ1):=by unfold oAt;rw[h]
theorem zm{k:Nat}{cap:List Nat}{g:FG}{ft:FT}{fe:FE}{d x:L4.D}{l xs:List L4.D}{ρ' ρ'':List Sl}(h1:g d (yp k cap ρ)=some ρ1)(h2:ft ρ1=some (true,ρ2))(h3:fe ρ2=some (x,ρ3))(h4:rN cap (ρ3.drop k) ρ=some ρ')(h5:sE k cap g ft fe l ρ'=some (xs,ρ'')):sE k cap g ft fe (d::l) ρ=some (x::xs,ρ''):=by unfold sE;simp only[h1,h2,h3,h4,h5]
variable{Q:List L4.D}
theorem LA{P:List L4.D}(h:qG es)(hp:P≠[])(hq:Q≠[])(lp:P.length<=1000)(lq:Q.length<=1000):∃d es',d∈P++Q/\oO es [.lst P,.lst Q]=some (d,es')/\qG es':=by
 let st:List L4.D->List Sl:=λes=>[.pm es,.im (.lst P),.im (.lst Q)];obtain⟨v,e1,x1,_,_,h1⟩:=dgx (i:=0) (b:=9) (a:=cC (.int 9)) st (λ_=>rfl) (λ_ _=>rfl) rfl h (by decide) (by decide);have et:cT (c2 (dEq false) (pJ o5 0 (a1 (cC (.int 9)))) (cC (.int 0))) (st es)=some (decide (v=0),st e1):=pQ (oV (x:=.int v) (y:=.int 0) x1 rfl (wD false v 0));by_cases c:v=0
 ·rw[aO c]at et;obtain⟨d,hd,e2,x2,h2⟩:=pk (i:=0) (e:=cV 2) (a:=c1 rG (cV 2)) (L:=Q) st (λ_=>rfl) (λ_ _=>rfl) rfl rfl h1 hq lq;refine⟨d,e2,bh _ hd,BS (ρ:=st e2) rfl ?_ rfl,h2⟩;unfold ub;exact pZ ((p6 et).trans (qf x2))
 ·rw[aU c]at et;obtain⟨d,hd,e2,x2,h2⟩:=pk (i:=0) (e:=cV 1) (a:=c1 rG (cV 1)) (L:=P) st (λ_=>rfl) (λ_ _=>rfl) rfl rfl h1 hp lp;refine⟨d,e2,bI _ hd,BS (ρ:=st e2) rfl ?_ rfl,h2⟩;unfold ub;exact(oG ((p7 et).trans rfl)).trans (qf x2)
theorem smx{P:List L4.D}{a:FA}(st:List L4.D->List Sl)(hp:∀es,qL (st es) i=some es)(hq:∀es es',putAt (st es) i es'=st es')(ha:a (st es)=some ([.lst P,.lst Q],st es))(h:qG es)(p0:P≠[])(q0:Q≠[])(lp:P.length<=1000)(lq:Q.length<=1000):∃d es',d∈P++Q/\pJ oO i a (st es)=some (d,st es')/\qG es':=by obtain⟨d,es',hd,e,h'⟩:=LA h p0 q0 lp lq;exact⟨d,es',hd,by rw[<-hq es es'];exact Ia (hp es) ha (hp es) e,h'⟩
def n6:List Str:=["hall", "cave", "case", "key", "lamp", "sack"]
def n8:List Str:=n6++(["it", "here"]:List Str)
def fw:List Str:=n8++(["old", "red", "case", "x", "me"]:List Str)
def sW(x:Str):Str:=x++"s"
def k6:List Kd:=[.room,.room,.box,.plain,.lamp,.fixed]
def nmL:List Str:=n8++([("me" : Str)])
structure TOk(t:Th):Prop where
 n:t.n∈nmL
 w:(∃a∈fw,t.w=[a])\/∃a∈fw,∃b∈fw,t.w=[a,sW b]
theorem RI{b:Str}(h:b∈fw):sS (.str b) (.str "s")=some (.str (sW b)):=by have:=aL (aD.mp (show (fw.all λb=>cy b.length 20)=true by kernel_rfl) b h);show (if b.length+("s" : Str).length<=100000 then some (D.str (b++"s"))else none)=_;rw[ah (by rw[show ("s" : Str).length=1 from rfl];omega)];rfl
theorem As{x:Str}(hx:x∈n8)(s1 s2 s3 s4 s5:Sl)(rest:List Sl):∀(l:List Nat) (es:List L4.D),qG es->∃(ws:List Str) (es':List L4.D),ws.length=l.length/\(∀y∈ws,y∈fw)/\qG es'/\
  sE 1 [0,6] (gN 0) pF (pJ oO 1 (aCons (cL (oJ (a1 (cV 2)))) (a1 (cL (oJ (aCons (cS "old") (aCons (cS "red") (aCons (cS "case") (a1 (cS "x")))))))))) (l.map λk:Nat=>D.int (k:Nat)) (.pm es::s1::s2::s3::s4::s5::.im (.str x)::rest)=some (ws.map D.str,.pm es'::s1::s2::s3::s4::s5::.im (.str x)::rest)
 |[],es,h=>⟨[],es,rfl,λr hr=>(by cases hr),h,rfl⟩
 |k::l,es,h=>by
  obtain⟨d,e1,hd,x1,h1⟩:=smx (i:=1) (P:=[.str x]) (Q:=(["old", "red", "case", "x"]:List Str).map D.str) (a:=aCons (cL (oJ (a1 (cV 2)))) (a1 (cL (oJ (aCons (cS "old") (aCons (cS "red") (aCons (cS "case") (a1 (cS "x"))))))))) (λes=>[.im (.int (k:Nat)),.pm es,.im (.str x)]) (λ_=>rfl) (λ_ _=>rfl) rfl h (by intro z;cases z) (by intro z;cases z) (aL rfl) (aL rfl);obtain⟨y,hy,rfl⟩:∃y∈fw,d=.str y:=by
   rcases aV.mp hd with hd|hd
   ·exact⟨x,bI _ hx,bb.mp hd⟩
   ·obtain⟨y,hy,e⟩:=aI.mp hd;exact⟨y,(show ∀y∈(["old", "red", "case", "x"]:List Str),y∈fw by decide) y hy,e.symm⟩
  obtain⟨ws,e2,eL,hw,h2,x2⟩:=As hx s1 s2 s3 s4 s5 rest l e1 h1;refine⟨y::ws,e2,by rw[aA,aA,eL],λq hq=>?_,h2,?_⟩
  ·rcases aP.mp hq with rfl|hq
   ·exact hy
   ·exact hw q hq
  ·rw[aF,aF];exact zm (ρ1:=[.im (.int (k:Nat)),.pm es,.im (.str x)]) (ρ2:=[.im (.int (k:Nat)),.pm es,.im (.str x)]) rfl rfl x1 rfl x2
def tB:FS:=(oK (pd 6 (pJ oO 0 (aCons (cL (oJ (a1 (c2 dIx (cV 1) (c2 qZ (c2 qN (cV 5) (cV 3)) (cC (.int 6))))))) (a1 (cL (qa (cV 1) (cL (oJ (aCons (cS "it") (a1 (cS "here")))))))))))
 (oK (pd 7 (pJ oO 0 (aCons (cL (oJ (a1 (c2 dIx (cV 4) (c2 qZ (c2 qN (cV 5) (cV 3)) (cC (.int 6))))))) (a1 (cL (qa (cV 4) (cL (oJ (a1 (cS "you"))))))))))
 (oK (pd 8 (sH (cL (oT 1 [0,6] (iR1 (c2 qN (cC (.int 1)) (pJ o5 0 (a1 (cC (.int 2)))))) (gN 0) pF (pJ oO 1 (aCons (cL (oJ (a1 (cV 2)))) (a1 (cL (oJ (aCons (cS "old") (aCons (cS "red") (aCons (cS "case") (a1 (cS "x"))))))))))))))
 (oK (pd 8 (Aa (vJ (cV 8) oNo (oAt (cC (.int 1)))) (sH (cL (oT 1 [] (iT (vJ (cV 8) (oAt (cC (.int 1))) oNo)) (gN 0) pF (c2 sS (cV 0) (cS "s")))))))
 (oK (pd 9 (pJ oO 0 (aCons (cL (oJ (aCons (cS "hall") (aCons (cS "hall") (aCons (cS "me") (a1 (cS "case"))))))) (a1 (cL (qa (cV 1) (cL (oJ (aCons (cS "me") (a1 (cC D.non)))))))))))
 (oK (sIf (cT (c2 (dEq false) (cV 7) (cS "room"))) (pd 9 (pJ oO 0 (aCons (cL (oJ (a1 (cC D.non)))) (a1 (cL (oJ (aCons (cS "hall") (a1 (cS "me"))))))))) pf)
 (qD (vI 2 (pE 0 (λds=>rR (ds++[])) (aCons (cV 6) (aCons (cV 8) (aCons (cV 7) (a1 (cV 9))))))))))))))
abbrev NM:Sl:=.im (.lst (n6.map D.str))
abbrev KN:Sl:=.im (.lst (k6.map λk=>D.str k.s))
theorem B8{d:L4.D}{l:List (Option Str)}(h:d∈l.map oS):∃o,d=oS o:=by obtain⟨o,_,e⟩:=aI.mp h;exact⟨o,e.symm⟩
theorem Eb(h:qG es)(P:List Th)(lP:P.length<=900)(tn k:Nat)(s6 s7 s8 s9:Sl):∃t es' t6 t7 t8 t9,TOk t/\qG es'/\tB [.pm es,NM,.ls (P.map thD),.im (.int (tn:Nat)),KN,.im (.int (k:Nat)),s6,s7,s8,s9]=some (.nx [.pm es',NM,.ls ((P++[t]).map thD),.im (.int (tn:Nat)),KN,.im (.int (k:Nat)),t6,t7,t8,t9]):=by
 let L2':Sl:=.ls (P.map thD);let TN:Sl:=.im (.int (tn:Nat));let K:Sl:=.im (.int (k:Nat));let j:=(k+tn) % 6;have hj:j<6:=ee _ (by decide);have ej:∀ρ:List Sl,cV 5 ρ=some (.int (k:Nat),ρ)->cV 3 ρ=some (.int (tn:Nat),ρ)->c2 qZ (c2 qN (cV 5) (cV 3)) (cC (.int 6)) ρ=some (.int (j:Nat),ρ):=λρ h5 h3=>by refine(oV (x:=.int ((k:Int)+tn)) (y:=.int 6) (oV h5 h3 rfl) rfl (wC (by decide))).trans ?_;rw[show ((k:Int)+tn) % 6=(j:Nat) by show _=(((k+tn) % 6:Nat):Int);omega]
 have nj:(n6.map D.str)[j]?=some (.str (n6.getD j "hall")):=by rw[aY,aQ (show j<n6.length from hj),eC,aQ (show j<n6.length from hj)];rfl
 have nj':n6.getD j "hall" ∈ n6:=by rw[eC,aQ (show j<n6.length from hj)];exact fG _
 have kj:(k6.map λk=>D.str k.s)[j]?=some (.str (k6.getD j .room).s):=by rw[aY,aQ (show j<k6.length from hj),eC,aQ (show j<k6.length from hj)];rfl
 obtain⟨d6,e1,hd6,x1,h1⟩:=smx (i:=0) (P:=[.str (n6.getD j "hall")]) (Q:=n8.map D.str) (a:=aCons (cL (oJ (a1 (c2 dIx (cV 1) (c2 qZ (c2 qN (cV 5) (cV 3)) (cC (.int 6))))))) (a1 (cL (qa (cV 1) (cL (oJ (aCons (cS "it") (a1 (cS "here"))))))))) (λes=>[.pm es,NM,L2',TN,KN,K,s6,s7,s8,s9]) (λ_=>rfl) (λ_ _=>rfl)
  (oR (pL (yu (oR (oV (x:=.lst (n6.map D.str)) (y:=.int (j:Nat)) rfl (ej _ rfl rfl) (uT nj)) rfl) (by simp))) rfl) h (by intro z;cases z) (by intro z;cases z) (aL rfl) (aL rfl)
 obtain⟨x,hx,rfl⟩:∃x∈n8,d6=.str x:=by
  rcases aV.mp hd6 with hd|hd
  ·exact⟨_,bI _ nj',bb.mp hd⟩
  ·obtain⟨y,hy,e⟩:=aI.mp hd;exact⟨y,hy,e.symm⟩
 let X6:Sl:=.im (.str x);obtain⟨d7,e2,hd7,x2,h2⟩:=smx (i:=0) (P:=[.str (k6.getD j .room).s]) (Q:=(k6++[Kd.you]).map λk:Kd=>D.str k.s) (a:=aCons (cL (oJ (a1 (c2 dIx (cV 4) (c2 qZ (c2 qN (cV 5) (cV 3)) (cC (.int 6))))))) (a1 (cL (qa (cV 4) (cL (oJ (a1 (cS "you")))))))) (λes=>[.pm es,NM,L2',TN,KN,K,X6,s7,s8,s9]) (λ_=>rfl) (λ_ _=>rfl)
  (oR (pL (yu (oR (oV (x:=.lst (k6.map λk=>D.str k.s)) (y:=.int (j:Nat)) rfl (ej _ rfl rfl) (uT kj)) rfl) (by simp))) rfl) h1 (by intro z;cases z) (by intro z;cases z) (aL rfl) (aL rfl)
 obtain⟨κ,rfl⟩:∃κ:Kd,d7=.str κ.s:=by
  rcases aV.mp hd7 with hd|hd
  ·exact⟨_,bb.mp hd⟩
  ·obtain⟨y,hy,e⟩:=aI.mp hd;exact⟨y,e.symm⟩
 let X7:Sl:=.im (.str κ.s);obtain⟨dn,e3,x3,p0,p1,h3⟩:=dgx (i:=0) (b:=2) (a:=cC (.int 2)) (λes=>[.pm es,NM,L2',TN,KN,K,X6,X7,s8,s9]) (λ_=>rfl) (λ_ _=>rfl) rfl h2 (by decide) (by decide);obtain⟨n,rfl⟩:=cZ p0;obtain⟨ws,e4,eL,hw,h4,x4⟩:=As hx NM L2' TN KN K [X7,s8,s9] (aT (1+n)) e3 h3;rw[bK]at eL;let X8:Sl:=.im (.tup (ws.map D.str));have c8:pd 8 (sH (cL (oT 1 [0,6] (iR1 (c2 qN (cC (.int 1)) (pJ o5 0 (a1 (cC (.int 2)))))) (gN 0) pF (pJ oO 1 (aCons (cL (oJ (a1 (cV 2)))) (a1 (cL (oJ (aCons (cS "old") (aCons (cS "red") (aCons (cS "case") (a1 (cS "x")))))))))))))  [.pm e2,NM,L2',TN,KN,K,X6,X7,s8,s9]=some (.nx [.pm e4,NM,L2',TN,KN,K,X6,X7,X8,s9]):=by refine(ph (d:=.tup (ws.map D.str)) (ρ':=[.pm e4,NM,L2',TN,KN,K,X6,X7,s8,s9]) ?_).trans rfl;unfold sH;rw[pL ((wz (Bj (n:=1+n) (ρ1:=[.pm e3,NM,L2',TN,KN,K,X6,X7,s8,s9]) ((oV (x:=.int 1) (y:=.int (n:Nat)) rfl x3 rfl).trans (by rw[show ((1+n:Nat):Int)=1+(n:Int) by omega])) (by omega)) (by rw[ag,bK];omega)).trans x4)]
 obtain⟨w,okW,c9⟩:∃w:List Str,((∃a∈fw,w=[a])\/∃a∈fw,∃b∈fw,w=[a,sW b])/\pd 8 (Aa (vJ (cV 8) oNo (oAt (cC (.int 1)))) (sH (cL (oT 1 [] (iT (vJ (cV 8) (oAt (cC (.int 1))) oNo)) (gN 0) pF (c2 sS (cV 0) (cS "s")))))) [.pm e4,NM,L2',TN,KN,K,X6,X7,X8,s9]=some (.nx [.pm e4,NM,L2',TN,KN,K,X6,X7,.im (.tup (w.map D.str)),s9]):=by
  have c:n=0\/n=1:=by omega
  rcases c with rfl|rfl
  ·obtain⟨a,rfl⟩:=jY.mp eL;exact⟨[a],.inl ⟨a,hw a aG,rfl⟩,rfl⟩
  ·obtain⟨a,b,rfl⟩:∃a b,ws=[a,b]:=by
    match ws,eL with
    |[a,b],_=>exact⟨a,b,rfl⟩
   refine⟨[a,sW b],.inr ⟨a,hw a aG,b,hw b (aH _ aG),rfl⟩,?_⟩;let ρ:List Sl:=[.pm e4,NM,L2',TN,KN,K,X6,X7,.im (.tup [.str a,.str b]),s9];refine(ph (d:=.tup [.str a,.str (sW b)]) (ρ':=ρ) ?_).trans rfl;have q:cL (oT 1 [] (iT (vJ (cV 8) (oAt (cC (.int 1))) oNo)) (gN 0) pF (c2 sS (cV 0) (cS "s"))) ρ=some (.lst [.str (sW b)],ρ):=pL ((wz (ds:=[.str b]) (ρ1:=ρ) rfl (by simp)).trans (zm (ρ1:=[.im (.str b)]) (ρ2:=[.im (.str b)]) rfl rfl (oV (x:=.str b) (y:=.str "s") rfl rfl (RI (hw b (aH _ aG)))) rfl rfl));have q2:sH (cL (oT 1 [] (iT (vJ (cV 8) (oAt (cC (.int 1))) oNo)) (gN 0) pF (c2 sS (cV 0) (cS "s")))) ρ=some (.tup [.str (sW b)],ρ):=by unfold sH;rw[q]
   unfold Aa;show (match sH (cL (oT 1 [] (iT (vJ (cV 8) (oAt (cC (.int 1))) oNo)) (gN 0) pF (c2 sS (cV 0) (cS "s")))) ρ with
    |some (.tup ys,ρ2)=>if [D.str a].length+ys.length<=900 then some (D.tup ([D.str a]++ys),ρ2)else none
    |_=>none)=_
   rw[q2];rfl
 let X8':Sl:=.im (.tup (w.map D.str));obtain⟨d9,e5,hd9,x5,h5⟩:=smx (i:=0) (P:=[.str "hall", .str "hall", .str "me", .str "case"]) (Q:=(n6.map some++([some "me", none]:List (Option Str))).map oS) (a:=aCons (cL (oJ (aCons (cS "hall") (aCons (cS "hall") (aCons (cS "me") (a1 (cS "case"))))))) (a1 (cL (qa (cV 1) (cL (oJ (aCons (cS "me") (a1 (cC D.non))))))))) (λes=>[.pm es,NM,L2',TN,KN,K,X6,X7,X8',s9]) (λ_=>rfl) (λ_ _=>rfl) rfl h4 (by intro z;cases z) (by intro z;cases z) (aL rfl) (aL rfl);obtain⟨o,rfl⟩:∃o,d9=oS o:=B8 (l:=([some "hall", some "hall", some "me", some "case"]:List (Option Str))++(n6.map some++([some "me", none]:List (Option Str)))) hd9;let X9:Sl:=.im (oS o);obtain⟨o',e6,h6,x6⟩:∃(o':Option Str) (e6:List L4.D),qG e6/\sIf (cT (c2 (dEq false) (cV 7) (cS "room"))) (pd 9 (pJ oO 0 (aCons (cL (oJ (a1 (cC D.non)))) (a1 (cL (oJ (aCons (cS "hall") (a1 (cS "me"))))))))) pf [.pm e5,NM,L2',TN,KN,K,X6,X7,X8',X9]=some (.nx [.pm e6,NM,L2',TN,KN,K,X6,X7,X8',.im (oS o')]):=by
  have et:cT (c2 (dEq false) (cV 7) (cS "room")) [.pm e5,NM,L2',TN,KN,K,X6,X7,X8',X9]=some (decide (κ=.room),[.pm e5,NM,L2',TN,KN,K,X6,X7,X8',X9]):=pQ (oV (x:=.str κ.s) (y:=.str Kd.room.s) rfl rfl (sT κ .room));by_cases c:κ=.room
  ·rw[aO c]at et;obtain⟨d,e6,hd,x6,h6⟩:=smx (i:=0) (P:=[.non]) (Q:=[.str "hall", .str "me"]) (a:=aCons (cL (oJ (a1 (cC D.non)))) (a1 (cL (oJ (aCons (cS "hall") (a1 (cS "me"))))))) (λes=>[.pm es,NM,L2',TN,KN,K,X6,X7,X8',X9]) (λ_=>rfl) (λ_ _=>rfl) rfl h5 (by intro z;cases z) (by intro z;cases z) (aL rfl) (aL rfl);obtain⟨o',rfl⟩:∃o,d=oS o:=B8 (l:=[none,some "hall", some "me"]) hd;exact⟨o',e6,h6,(p6 et).trans ((ph x6).trans rfl)⟩
  ·rw[aU c]at et;exact⟨o,e5,h5,(p7 et).trans rfl⟩
 refine⟨⟨x,w,κ,o'⟩,e6,X6,X7,X8',.im (oS o'),⟨bI _ hx,okW⟩,h6,?_⟩;unfold tB;refine(oG ((ph x1).trans rfl)).trans ((oG ((ph x2).trans rfl)).trans ((oG c8).trans ((oG c9).trans ((oG ((ph x5).trans rfl)).trans ((oG x6).trans ?_)))));refine(tW (yw (es0:=P.map thD) (es:=P.map thD) (ρ1:=[.pm e6,NM,L2',TN,KN,K,X6,X7,X8',.im (oS o')]) (d:=thD ⟨x,w,κ,o'⟩) rfl (zi (ds:=[.str x,.tup (w.map D.str),.str κ.s,oS o']) rfl rfl) rfl (by rw[ag];omega))).trans ?_;rw[bj];rfl
theorem y7(tn:Nat):∀(l:List Nat) (es:List L4.D) (P:List Th) (s5 s6 s7 s8 s9:Sl),qG es->(∀t∈P,TOk t)->P.length+l.length<=900->∃(P':List Th) (es':List L4.D) (t5 t6 t7 t8 t9:Sl),(∀t∈P',TOk t)/\P'.length=P.length+l.length/\qG es'/\forL (gN 5) tB (l.map λk:Nat=>D.int (k:Nat)) [.pm es,NM,.ls (P.map thD),.im (.int (tn:Nat)),KN,s5,s6,s7,s8,s9]=some (.nx [.pm es',NM,.ls (P'.map thD),.im (.int (tn:Nat)),KN,t5,t6,t7,t8,t9])
 |[],es,P,s5,s6,s7,s8,s9,h,ok,_=>⟨P,es,s5,s6,s7,s8,s9,ok,rfl,h,rfl⟩
 |k::l,es,P,s5,s6,s7,s8,s9,h,ok,hl=>by
  rw[aA]at hl;obtain⟨t,e1,t6,t7,t8,t9,okt,h1,x1⟩:=Eb h P (by omega) tn k s6 s7 s8 s9;obtain⟨P',e2,u5,u6,u7,u8,u9,ok2,l2,h2,x2⟩:=y7 tn l e1 (P++[t]) (.im (.int (k:Nat))) t6 t7 t8 t9 h1 (λu hu=>by
   rcases aV.mp hu with hu|hu
   ·exact ok u hu
   ·rw[bb.mp hu];exact okt) (by rw[au,bf];omega)
  refine⟨P',e2,u5,u6,u7,u8,u9,ok2,by rw[l2,au,bf,aA];omega,h2,?_⟩;rw[aF];unfold forL;rw[show gN 5 (.int (k:Nat)) [.pm es,NM,.ls (P.map thD),.im (.int (tn:Nat)),KN,s5,s6,s7,s8,s9]=some [.pm es,NM,.ls (P.map thD),.im (.int (tn:Nat)),KN,.im (.int (k:Nat)),s6,s7,s8,s9] from rfl];simp only[x1];exact x2
theorem Gm(h:qG es):∃(T:List Th) (es':List L4.D),(∀t∈T,TOk t)/\T.length<=7/\ux es []=some (TD T,es'):=by
 let U:Sl:=.un;obtain⟨d,e1,x1,p0,p1,h1⟩:=dgx (i:=0) (b:=6) (a:=cC (.int 6)) (λes=>[.pm es,NM,.ls [],U,U,U,U,U,U,U]) (λ_=>rfl) (λ_ _=>rfl) rfl h (by decide) (by decide);obtain⟨tn,rfl⟩:=cZ p0;let TN:Sl:=.im (.int (tn:Nat));obtain⟨d2,e2,x2,q0,q1,h2⟩:=dgx (i:=0) (b:=7) (a:=cC (.int 7)) (λes=>[.pm es,NM,.ls [],TN,KN,U,U,U,U,U]) (λ_=>rfl) (λ_ _=>rfl) rfl h1 (by decide) (by decide);obtain⟨n,rfl⟩:=cZ q0;obtain⟨P,e3,t5,t6,t7,t8,t9,ok,lP,h3,x3⟩:=y7 tn (aT n) e2 [] U U U U U h2 (λt ht=>(by cases ht)) (by rw[bK,bg];omega);rw[bK,bg]at lP;obtain⟨v,e4,x4,r0,r1,h4⟩:=dgx (i:=0) (b:=12) (a:=cC (.int 12)) (λes=>[.pm es,NM,.ls (P.map thD),TN,KN,t5,t6,t7,t8,t9]) (λ_=>rfl) (λ_ _=>rfl) rfl h3 (by decide) (by decide);have et:cT (c2 CO (pJ o5 0 (a1 (cC (.int 12)))) (cC (.int 0))) [.pm e3,NM,.ls (P.map thD),TN,KN,t5,t6,t7,t8,t9]=some (decide (v > 0),[.pm e4,NM,.ls (P.map thD),TN,KN,t5,t6,t7,t8,t9]):=pQ (oV (x:=.int v) (y:=.int 0) x4 rfl rfl);have pre:∀{o:Out},(oK (sIf (cT (c2 CO (pJ o5 0 (a1 (cC (.int 12)))) (cC (.int 0)))) (qD (vI 2 (pE 0 (λds=>rR (ds++[])) (aCons (cS "me") (aCons (sU (a1 (cS "me"))) (aCons (cS "you") (a1 (pJ oO 0 (aCons (cL (oJ (a1 (cS "hall")))) (a1 (cL (oJ (aCons (cS "cave") (aCons (cS "case") (aCons (cS "me") (a1 (cC D.non))))))))))))))))) pf)
 (qM (BP 2))) [.pm e3,NM,.ls (P.map thD),TN,KN,t5,t6,t7,t8,t9]=some o->su [.pm es,U,U,U,U,U,U,U,U,U]=some o:=λ{o} q=>by unfold su;refine(oG (ρ':=[.pm es,NM,U,U,U,U,U,U,U,U]) rfl).trans ((oG (ρ':=[.pm es,NM,.ls [],U,U,U,U,U,U,U]) rfl).trans ((oG ((ph x1).trans rfl)).trans ((oG (ρ':=[.pm e1,NM,.ls [],TN,KN,U,U,U,U,U]) rfl).trans ?_)));exact(oG ((pW (Bj (ρ1:=[.pm e2,NM,.ls [],TN,KN,U,U,U,U,U]) x2 (by omega))).trans x3)).trans q
 by_cases c:v > 0
 ·rw[aO c]at et;obtain⟨d,e5,hd,x5,h5⟩:=smx (i:=0) (P:=[.str "hall"]) (Q:=[.str "cave", .str "case", .str "me", .non]) (a:=aCons (cL (oJ (a1 (cS "hall")))) (a1 (cL (oJ (aCons (cS "cave") (aCons (cS "case") (aCons (cS "me") (a1 (cC D.non))))))))) (λes=>[.pm es,NM,.ls (P.map thD),TN,KN,t5,t6,t7,t8,t9]) (λ_=>rfl) (λ_ _=>rfl) rfl h4 (by intro z;cases z) (by intro z;cases z) (aL rfl) (aL rfl);obtain⟨o,rfl⟩:∃o,d=oS o:=B8 (l:=[some "hall", some "cave", some "case", some "me", none]) hd;let t:Th:=⟨"me", ["me"],.you,o⟩;refine⟨P++[t],e5,λu hu=>?_,by rw[au,bf];omega,zV (ρ:=[.pm e5,NM,.un,TN,KN,t5,t6,t7,t8,t9]) rfl (pre ?_) rfl⟩
  ·rcases aV.mp hu with hu|hu
   ·exact ok u hu
   ·rw[bb.mp hu];exact⟨by show ("me" : Str)∈nmL;decide,.inl ⟨"me", by decide,rfl⟩⟩
  ·refine(oG (ρ':=[.pm e5,NM,.ls ((P++[t]).map thD),TN,KN,t5,t6,t7,t8,t9]) ((p6 et).trans ((tW (yw (es0:=P.map thD) (es:=P.map thD) (ρ1:=[.pm e5,NM,.ls (P.map thD),TN,KN,t5,t6,t7,t8,t9]) (d:=thD t) rfl (zi (ds:=[.str "me", .tup [.str "me"],.str "you", oS o]) (oR rfl (oR rfl (oR rfl (oR x5 rfl)))) rfl) rfl (by rw[ag];omega))).trans ?_))).trans rfl;rw[bj];rfl
 ·rw[aU c]at et;exact⟨P,e4,ok,by omega,zV (ρ:=[.pm e4,NM,.un,TN,KN,t5,t6,t7,t8,t9]) rfl (pre ((oG ((p7 et).trans rfl)).trans rfl)) rfl⟩
def i6:List Int:=[-1,0,1,2,3,4]
def mnL:List Str:=["gate", "luck", "bell", "case", "undo"]
structure MOk(m:Mk):Prop where
 n:m.n∈mnL
 st:m.st∈i6
 mo:m.mo∈i6
def mB:FS:=(oK (pd 3 (pJ oO 0 (aCons (cL (oJ (aCons (cC (.int 1)) (aCons (cC (.int 2)) (a1 (cC (.int 3))))))) (a1 (cL (oJ (aCons (cC (.int 0)) (aCons (cC (.int 4)) (a1 (c1 wV (cC (.int 1))))))))))))
 (oK (pd 4 (pJ oO 0 (aCons (cL (oJ (aCons (cC (.int 0)) (a1 (cC (.int 1)))))) (a1 (cL (oJ (aCons (cC (.int 2)) (aCons (cC (.int 3)) (aCons (cC (.int 4)) (a1 (c1 wV (cC (.int 1)))))))))))))
 (qD (vI 1 (pE 1 (λds=>vZ (ds++[])) (aCons (pJ oO 0 (aCons (cL (oJ (a1 (cV 2)))) (a1 (cL (oJ (aCons (cS "gate") (aCons (cS "case") (a1 (cS "undo"))))))))) (aCons (cV 4) (a1 (cV 3)))))))))
theorem Jc{d:L4.D}{l:List Int}(h:d∈l.map D.int)(hl:∀i∈l,i∈i6):∃i∈i6,d=.int i:=by obtain⟨i,hi,e⟩:=aI.mp h;exact⟨i,hl i hi,e.symm⟩
theorem B9{d:L4.D}{L:List Str}(h:d∈l.map D.str)(hl:∀x∈l,x∈L):∃x∈L,d=.str x:=by obtain⟨i,hi,e⟩:=aI.mp h;exact⟨i,hl i hi,e.symm⟩
theorem Gp(h:qG es)(P:List Mk)(lP:P.length<=900)(hx:x∈(["gate", "luck", "bell"]:List Str))(s3 s4:Sl):∃(m:Mk) (es':List L4.D) (t3 t4:Sl),MOk m/\qG es'/\mB [.pm es,.ls (P.map mkD),.im (.str x),s3,s4]=some (.nx [.pm es',.ls ((P++[m]).map mkD),.im (.str x),t3,t4]):=by
 let L1:Sl:=.ls (P.map mkD);let X:Sl:=.im (.str x);obtain⟨d3,e1,hd3,x1,h1⟩:=smx (i:=0) (P:=([1,2,3]:List Int).map D.int) (Q:=([0,4,-1]:List Int).map D.int) (a:=aCons (cL (oJ (aCons (cC (.int 1)) (aCons (cC (.int 2)) (a1 (cC (.int 3))))))) (a1 (cL (oJ (aCons (cC (.int 0)) (aCons (cC (.int 4)) (a1 (c1 wV (cC (.int 1)))))))))) (λes=>[.pm es,L1,X,s3,s4]) (λ_=>rfl) (λ_ _=>rfl) rfl h (by intro z;cases z) (by intro z;cases z) (aL rfl) (aL rfl);obtain⟨mo,hmo,rfl⟩:=Jc (l:=[1,2,3,0,4,-1]) hd3 (by decide);let X3:Sl:=.im (.int mo);obtain⟨d4,e2,hd4,x2,h2⟩:=smx (i:=0) (P:=([0,1]:List Int).map D.int) (Q:=([2,3,4,-1]:List Int).map D.int) (a:=aCons (cL (oJ (aCons (cC (.int 0)) (a1 (cC (.int 1)))))) (a1 (cL (oJ (aCons (cC (.int 2)) (aCons (cC (.int 3)) (aCons (cC (.int 4)) (a1 (c1 wV (cC (.int 1))))))))))) (λes=>[.pm es,L1,X,X3,s4]) (λ_=>rfl) (λ_ _=>rfl) rfl h1 (by intro z;cases z) (by intro z;cases z) (aL rfl) (aL rfl);obtain⟨st,hst,rfl⟩:=Jc (l:=[0,1,2,3,4,-1]) hd4 (by decide);let X4:Sl:=.im (.int st);obtain⟨d5,e3,hd5,x3,h3⟩:=smx (i:=0) (P:=[.str x]) (Q:=(["gate", "case", "undo"]:List Str).map D.str) (a:=aCons (cL (oJ (a1 (cV 2)))) (a1 (cL (oJ (aCons (cS "gate") (aCons (cS "case") (a1 (cS "undo")))))))) (λes=>[.pm es,L1,X,X3,X4]) (λ_=>rfl) (λ_ _=>rfl) rfl h2 (by intro z;cases z) (by intro z;cases z) (aL rfl) (aL rfl);obtain⟨n,hn,rfl⟩:=B9 (l:=x::(["gate", "case", "undo"]:List Str)) (L:=mnL) hd5 (λy hy=>by
  rcases aP.mp hy with rfl|hy
  ·exact(show ∀y∈(["gate", "luck", "bell"]:List Str),y∈mnL by decide) _ hx
  ·exact(show ∀y∈(["gate", "case", "undo"]:List Str),y∈mnL by decide) _ hy)
 refine⟨⟨n,st,mo⟩,e3,X3,X4,⟨hn,hst,hmo⟩,h3,?_⟩;unfold mB;refine(oG ((ph x1).trans rfl)).trans ((oG ((ph x2).trans rfl)).trans ?_);refine(tW (yw (es0:=P.map mkD) (es:=P.map mkD) (ρ1:=[.pm e3,L1,X,X3,X4]) (d:=mkD ⟨n,st,mo⟩) rfl (zi (ds:=[.str n,.int st,.int mo]) (oR x3 rfl) rfl) rfl (by rw[ag];omega))).trans ?_;rw[bj];rfl
theorem Au:∀(l:List Str) (es:List L4.D) (P:List Mk) (s2 s3 s4:Sl),qG es->(∀x∈l,x∈(["gate", "luck", "bell"]:List Str))->(∀t∈P,MOk t)->P.length+l.length<=900->∃(P':List Mk) (es':List L4.D) (t2 t3 t4:Sl),(∀t∈P',MOk t)/\P'.length=P.length+l.length/\qG es'/\forL (gN 2) mB (l.map D.str) [.pm es,.ls (P.map mkD),s2,s3,s4]=some (.nx [.pm es',.ls (P'.map mkD),t2,t3,t4])
 |[],es,P,s2,s3,s4,h,_,ok,_=>⟨P,es,s2,s3,s4,ok,rfl,h,rfl⟩
 |x::l,es,P,s2,s3,s4,h,hx,ok,hl=>by
  rw[aA]at hl;obtain⟨t,e1,t3,t4,okt,h1,x1⟩:=Gp h P (by omega) (hx x aG) s3 s4;obtain⟨P',e2,u2,u3,u4,ok2,l2,h2,x2⟩:=Au l e1 (P++[t]) (.im (.str x)) t3 t4 h1 (λy hy=>hx y (aH _ hy)) (λu hu=>by
   rcases aV.mp hu with hu|hu
   ·exact ok u hu
   ·rw[bb.mp hu];exact okt) (by rw[au,bf];omega)
  refine⟨P',e2,u2,u3,u4,ok2,by rw[l2,au,bf,aA];omega,h2,?_⟩;rw[aF];unfold forL;rw[show gN 2 (.str x) [.pm es,.ls (P.map mkD),s2,s3,s4]=some [.pm es,.ls (P.map mkD),.im (.str x),s3,s4] from rfl];simp only[x1];exact x2
theorem Jd{a:FA}{f:FE}{L:List Str}{n:Nat}(h1:a ρ=some (L.map D.str,ρ))(h2:f ρ=some (.int (n:Nat),ρ1))(hn:n<=L.length):iL (cL (xa (cL a) oNo (oAt f))) ρ=some ((L.take n).map D.str,ρ1):=by
 have q:xa (cL a) oNo (oAt f) ρ=some ((L.take n).map D.str,ρ1):=by refine(PY (ds:=L.map D.str) (ρ1:=ρ) (ρ2:=ρ) (l:=none) (pL h1) rfl (PZ h2)).trans ?_;rw[D9 n (by rw[ag];exact hn),fN]
 unfold iL;rw[pL q]
theorem Je(h:qG es):∃(M:List Mk) (es':List L4.D),(∀m∈M,MOk m)/\M.length<=3/\vp es []=some (MD M,es'):=by let U:Sl:=.un;obtain⟨d,e1,x1,p0,p1,h1⟩:=dgx (i:=0) (b:=4) (a:=cC (.int 4)) (λes=>[.pm es,.ls [],U,U,U]) (λ_=>rfl) (λ_ _=>rfl) rfl h (by decide) (by decide);obtain⟨n,rfl⟩:=cZ p0;obtain⟨M,e2,t2,t3,t4,ok,lM,h2,x2⟩:=Au ((["gate", "luck", "bell"]:List Str).take n) e1 [] U U U h1 (λx hx=>kc hx) (λt ht=>(by cases ht)) (by rw[bL,bg];omega);rw[bL,bg]at lM;refine⟨M,e2,ok,by rw[lM];have:=iX n (["gate", "luck", "bell"]:List Str).length;omega,zV (ρ:=[.pm e2,.un,t2,t3,t4]) rfl ?_ rfl⟩;unfold vo;refine(oG (ρ':=[.pm es,.ls [],U,U,U]) rfl).trans ?_;exact(oG ((pW (Jd (L:=["gate", "luck", "bell"]) (ρ1:=[.pm e1,.ls [],U,U,U]) rfl x1 (by show n<=3;omega))).trans x2)).trans rfl
structure Wy where
 r:Str
 w:Str
 g:Str
 m:Option Str
def wyD(w:Wy):L4.D:=.tup [.str w.r,.str w.w,.str w.g,oS w.m]
abbrev WD(W:List Wy):L4.D:=.lst (W.map wyD)
def wwL:List Str:=["north", "up", "down", "the", "in", "go", "key", "undo"]
def wB0:FS:=(oK (pd 3 (pJ oO 0 (aCons (cL (oJ (aCons (cS "hall") (a1 (cS "cave"))))) (a1 (cL (oJ (aCons (cS "me") (aCons (cS "case") (a1 (cS "key"))))))))))
 (oK (pd 4 (pJ oO 0 (aCons (cL (oJ (aCons (cS "north") (aCons (cS "up") (a1 (cS "down")))))) (a1 (cL (oJ (aCons (cS "the") (aCons (cS "in") (aCons (cS "go") (aCons (cS "key") (a1 (cS "undo"))))))))))))
 (oK (pd 5 (pJ oO 0 (aCons (cL (oJ (aCons (cC D.non) (aCons (cC D.non) (a1 (cS "gate")))))) (a1 (cL (oJ (aCons (cS "case") (aCons (cS "lamp") (aCons (cS "key") (aCons (cS "luck") (a1 (cS "hall"))))))))))))
 (qD (vI 1 (sU (aCons (cV 3) (aCons (cV 4) (aCons (pJ oO 0 (aCons (cL (oJ (a1 (cS "hall")))) (a1 (cL (oJ (aCons (cS "cave") (aCons (cS "me") (a1 (cS "x"))))))))) (a1 (cV 5)))))))))))
theorem ya{d:L4.D}(h:d∈l.map D.str):∃x∈l,d=.str x:=B9 h λ_ h=>h
theorem Jf(h:qG es)(P:List Wy)(lP:P.length<=900)(s2 s3 s4 s5:Sl):∃(w:Wy) (es':List L4.D) (t3 t4 t5:Sl),w.w∈wwL/\qG es'/\wB0 [.pm es,.ls (P.map wyD),s2,s3,s4,s5]=some (.nx [.pm es',.ls ((P++[w]).map wyD),s2,t3,t4,t5]):=by let L1:Sl:=.ls (P.map wyD);obtain⟨d3,e1,hd3,x1,h1⟩:=smx (i:=0) (P:=(["hall", "cave"]:List Str).map D.str) (Q:=(["me", "case", "key"]:List Str).map D.str) (a:=aCons (cL (oJ (aCons (cS "hall") (a1 (cS "cave"))))) (a1 (cL (oJ (aCons (cS "me") (aCons (cS "case") (a1 (cS "key")))))))) (λes=>[.pm es,L1,s2,s3,s4,s5]) (λ_=>rfl) (λ_ _=>rfl) rfl h (by intro z;cases z) (by intro z;cases z) (aL rfl) (aL rfl);obtain⟨r,hr,rfl⟩:=ya (l:=["hall", "cave", "me", "case", "key"]) hd3;let X3:Sl:=.im (.str r);obtain⟨d4,e2,hd4,x2,h2⟩:=smx (i:=0) (P:=(["north", "up", "down"]:List Str).map D.str) (Q:=(["the", "in", "go", "key", "undo"]:List Str).map D.str) (a:=aCons (cL (oJ (aCons (cS "north") (aCons (cS "up") (a1 (cS "down")))))) (a1 (cL (oJ (aCons (cS "the") (aCons (cS "in") (aCons (cS "go") (aCons (cS "key") (a1 (cS "undo")))))))))) (λes=>[.pm es,L1,s2,X3,s4,s5]) (λ_=>rfl) (λ_ _=>rfl) rfl h1 (by intro z;cases z) (by intro z;cases z) (aL rfl) (aL rfl);obtain⟨x,hx,rfl⟩:=ya (l:=wwL) hd4;let X4:Sl:=.im (.str x);obtain⟨d5,e3,hd5,x3,h3⟩:=smx (i:=0) (P:=([none,none,some "gate"]:List (Option Str)).map oS) (Q:=([some "case", some "lamp", some "key", some "luck", some "hall"]:List (Option Str)).map oS) (a:=aCons (cL (oJ (aCons (cC D.non) (aCons (cC D.non) (a1 (cS "gate")))))) (a1 (cL (oJ (aCons (cS "case") (aCons (cS "lamp") (aCons (cS "key") (aCons (cS "luck") (a1 (cS "hall")))))))))) (λes=>[.pm es,L1,s2,X3,X4,s5]) (λ_=>rfl) (λ_ _=>rfl) rfl h2 (by intro z;cases z) (by intro z;cases z) (aL rfl) (aL rfl);obtain⟨m,rfl⟩:∃o,d5=oS o:=B8 (l:=([none,none,some "gate", some "case", some "lamp", some "key", some "luck", some "hall"]:List (Option Str))) hd5;let X5:Sl:=.im (oS m);obtain⟨d6,e4,hd6,x4,h4⟩:=smx (i:=0) (P:=[.str "hall"]) (Q:=(["cave", "me", "x"]:List Str).map D.str) (a:=aCons (cL (oJ (a1 (cS "hall")))) (a1 (cL (oJ (aCons (cS "cave") (aCons (cS "me") (a1 (cS "x")))))))) (λes=>[.pm es,L1,s2,X3,X4,X5]) (λ_=>rfl) (λ_ _=>rfl) rfl h3 (by intro z;cases z) (by intro z;cases z) (aL rfl) (aL rfl);obtain⟨g,hg,rfl⟩:=ya (l:=["hall", "cave", "me", "x"]) hd6;refine⟨⟨r,x,g,m⟩,e4,X3,X4,X5,hx,h4,?_⟩;unfold wB0;refine(oG ((ph x1).trans rfl)).trans ((oG ((ph x2).trans rfl)).trans ((oG ((ph x3).trans rfl)).trans ?_));refine(tW (yw (es0:=P.map wyD) (es:=P.map wyD) (ρ1:=[.pm e4,L1,s2,X3,X4,X5]) (d:=wyD ⟨r,x,g,m⟩) rfl (N0 (oR rfl (oR rfl (oR x4 rfl))) (aL rfl)) rfl (by rw[ag];omega))).trans ?_;rw[bj];rfl
theorem Bk:∀(l:List L4.D) (es:List L4.D) (P:List Wy) (s2 s3 s4 s5:Sl),qG es->(∀t∈P,t.w∈wwL)->P.length+l.length<=900->∃(P':List Wy) (es':List L4.D) (t2 t3 t4 t5:Sl),(∀t∈P',t.w∈wwL)/\P'.length=P.length+l.length/\qG es'/\forL (gN 2) wB0 l [.pm es,.ls (P.map wyD),s2,s3,s4,s5]=some (.nx [.pm es',.ls (P'.map wyD),t2,t3,t4,t5])
 |[],es,P,s2,s3,s4,s5,h,ok,_=>⟨P,es,s2,s3,s4,s5,ok,rfl,h,rfl⟩
 |x::l,es,P,s2,s3,s4,s5,h,ok,hl=>by
  rw[aA]at hl;obtain⟨t,e1,t3,t4,t5,okt,h1,x1⟩:=Jf h P (by omega) (.im x) s3 s4 s5;obtain⟨P',e2,u2,u3,u4,u5,ok2,l2,h2,x2⟩:=Bk l e1 (P++[t]) (.im x) t3 t4 t5 h1 (λu hu=>by
   rcases aV.mp hu with hu|hu
   ·exact ok u hu
   ·rw[bb.mp hu];exact okt) (by rw[au,bf];omega)
  refine⟨P',e2,u2,u3,u4,u5,ok2,by rw[l2,au,bf,aA];omega,h2,?_⟩;unfold forL;rw[show gN 2 x [.pm es,.ls (P.map wyD),s2,s3,s4,s5]=some [.pm es,.ls (P.map wyD),.im x,s3,s4,s5] from rfl];simp only[x1];exact x2
theorem LB(h:qG es):∃(W:List Wy) (es':List L4.D),(∀w∈W,w.w∈wwL)/\W.length<=3/\wm es []=some (WD W,es'):=by let U:Sl:=.un;obtain⟨d,e1,x1,p0,p1,h1⟩:=dgx (i:=0) (b:=4) (a:=cC (.int 4)) (λes=>[.pm es,.ls [],U,U,U,U]) (λ_=>rfl) (λ_ _=>rfl) rfl h (by decide) (by decide);obtain⟨n,rfl⟩:=cZ p0;obtain⟨W,e2,t2,t3,t4,t5,ok,lW,h2,x2⟩:=Bk ((aT n).map λk:Nat=>D.int (k:Nat)) e1 [] U U U U h1 (λt ht=>(by cases ht)) (by rw[ag,bK,bg];omega);rw[ag,bK,bg]at lW;refine⟨W,e2,ok,by omega,zV (ρ:=[.pm e2,.un,t2,t3,t4,t5]) rfl ?_ rfl⟩;unfold wg;refine(oG (ρ':=[.pm es,.ls [],U,U,U,U]) rfl).trans ?_;exact(oG ((pW (Bj (ρ1:=[.pm e1,.ls [],U,U,U,U]) x1 (by omega))).trans x2)).trans rfl
structure Vk where
 n:Str
 o:List Str
 f:Str
 j:Option Str
def vkD(v:Vk):L4.D:=.obj 2 ["name", "others", "form", "joining"] [.str v.n,.tup (v.o.map D.str),.str v.f,oS v.j]
def v3:List Str:=["push", "tie", "sing"]
def vnL:List Str:=v3++(["put", "red", "restart", "in"]:List Str)
def voL:List Str:=v3.map sW++(["push", "key", "a", "take", "up", "in"]:List Str)
def jL:List (Option Str):=[none,some "with", some "in", some "north", some "key", some "tie"]
def fms:List Str:=["alone", "one", "two", "way"]
structure VOk(v:Vk):Prop where
 n:v.n∈vnL
 ol:v.o.length<=1
 o:∀x∈v.o,x∈voL
 f:v.f∈fms
 j:v.j∈jL
def vB:FS:=(oK (pd 3 (c2 dIx (cL (oJ (aCons (cS "alone") (aCons (cS "one") (aCons (cS "two") (a1 (cS "way"))))))) (pJ o5 0 (a1 (cC (.int 4))))))
 (oK (pd 4 (pJ oO 0 (aCons (cL (oJ (a1 (c2 dIx (cL (oJ (aCons (cC D.non) (a1 (cS "with"))))) (c1 DN (c2 (dEq false) (cV 3) (cS "two"))))))) (a1 (cL (oJ (aCons (cC D.non) (aCons (cS "in") (aCons (cS "north") (aCons (cS "key") (a1 (cS "tie"))))))))))))
 (oK (pd 5 (cL (oJ (aCons (cS "push") (aCons (cS "key") (aCons (cS "a") (aCons (cS "take") (aCons (cS "up") (a1 (cS "in"))))))))))
 (oK (pd 6 (sH (cL (oT 1 [0,5,2] (iR1 (pJ o5 0 (a1 (cC (.int 2))))) (gN 0) pF (pJ oO 1 (aCons (cL (oJ (a1 (c2 sS (cV 3) (cS "s"))))) (a1 (cV 2))))))))
 (qD (vI 1 (pE 2 (λds=>qk (ds++[])) (aCons (pJ oO 0 (aCons (cL (oJ (a1 (cV 2)))) (a1 (cL (oJ (aCons (cS "put") (aCons (cS "red") (aCons (cS "restart") (a1 (cS "in")))))))))) (aCons (cV 6) (aCons (cV 3) (a1 (cV 4))))))))))))
theorem RJ{b:Str}(h:b∈v3):sS (.str b) (.str "s")=some (.str (sW b)):=by have:=aL (aD.mp (show (v3.all λb=>cy b.length 20)=true by kernel_rfl) b h);show (if b.length+("s" : Str).length<=100000 then some (D.str (b++"s"))else none)=_;rw[ah (by rw[show ("s" : Str).length=1 from rfl];omega)];rfl
abbrev OD:L4.D:=.lst ((["push", "key", "a", "take", "up", "in"]:List Str).map D.str)
theorem y8{x:Str}(hx:x∈v3)(s1 s3 s4 s6:Sl):∀(l:List Nat) (es:List L4.D),qG es->∃(ws:List Str) (es':List L4.D),ws.length=l.length/\(∀y∈ws,y∈voL)/\qG es'/\
  sE 1 [0,5,2] (gN 0) pF (pJ oO 1 (aCons (cL (oJ (a1 (c2 sS (cV 3) (cS "s"))))) (a1 (cV 2)))) (l.map λk:Nat=>D.int (k:Nat)) [.pm es,s1,.im (.str x),s3,s4,.im OD,s6]=some (ws.map D.str,[.pm es',s1,.im (.str x),s3,s4,.im OD,s6])
 |[],es,h=>⟨[],es,rfl,λr hr=>(by cases hr),h,rfl⟩
 |k::l,es,h=>by
  obtain⟨d,e1,hd,x1,h1⟩:=smx (i:=1) (P:=[.str (sW x)]) (Q:=(["push", "key", "a", "take", "up", "in"]:List Str).map D.str) (a:=aCons (cL (oJ (a1 (c2 sS (cV 3) (cS "s"))))) (a1 (cV 2))) (λes=>[.im (.int (k:Nat)),.pm es,.im OD,.im (.str x)]) (λ_=>rfl) (λ_ _=>rfl) (oR (pL (yu (oR (oV (x:=.str x) (y:=.str "s") rfl rfl (RJ hx)) rfl) (aL rfl))) rfl) h (by intro z;cases z) (by intro z;cases z) (aL rfl) (aL rfl);obtain⟨y,hy,rfl⟩:=B9 (l:=sW x::(["push", "key", "a", "take", "up", "in"]:List Str)) (L:=voL) hd (λy hy=>by
   rcases aP.mp hy with rfl|hy
   ·exact bI _ (cM hx)
   ·exact bh _ hy)
  obtain⟨ws,e2,eL,hw,h2,x2⟩:=y8 hx s1 s3 s4 s6 l e1 h1;refine⟨y::ws,e2,by rw[aA,aA,eL],λq hq=>?_,h2,?_⟩
  ·rcases aP.mp hq with rfl|hq
   ·exact hy
   ·exact hw q hq
  ·rw[aF,aF];exact zm (ρ1:=[.im (.int (k:Nat)),.pm es,.im OD,.im (.str x)]) (ρ2:=[.im (.int (k:Nat)),.pm es,.im OD,.im (.str x)]) rfl rfl x1 rfl x2
theorem Gq(h:qG es)(P:List Vk)(lP:P.length<=900)(hx:x∈v3)(s3 s4 s5 s6:Sl):∃(v:Vk) (es':List L4.D) (t3 t4 t5 t6:Sl),VOk v/\qG es'/\vB [.pm es,.ls (P.map vkD),.im (.str x),s3,s4,s5,s6]=some (.nx [.pm es',.ls ((P++[v]).map vkD),.im (.str x),t3,t4,t5,t6]):=by
 let L1:Sl:=.ls (P.map vkD);let X:Sl:=.im (.str x);obtain⟨d3,hd3,e1,x1,h1⟩:=pk (i:=0) (e:=cL (oJ (aCons (cS "alone") (aCons (cS "one") (aCons (cS "two") (a1 (cS "way"))))))) (a:=cC (.int 4)) (L:=fms.map D.str) (λes=>[.pm es,L1,X,s3,s4,s5,s6]) (λ_=>rfl) (λ_ _=>rfl) rfl rfl h (by intro z;cases z) (aL rfl);obtain⟨f,hf,rfl⟩:=ya (l:=fms) hd3;let X3:Sl:=.im (.str f);obtain⟨p,hp,ep⟩:∃p∈jL,c2 dIx (cL (oJ (aCons (cC D.non) (a1 (cS "with"))))) (c1 DN (c2 (dEq false) (cV 3) (cS "two"))) [.pm e1,L1,X,X3,s4,s5,s6]=some (oS p,[.pm e1,L1,X,X3,s4,s5,s6]):=by
  have hf':=hf;simp only[fms,aP,kY,or_false]at hf';rcases hf' with rfl|rfl|rfl|rfl
  ·exact⟨none,by decide,rfl⟩
  ·exact⟨none,by decide,rfl⟩
  ·exact⟨some "with", by decide,rfl⟩
  ·exact⟨none,by decide,rfl⟩
 obtain⟨d4,e2,hd4,x2,h2⟩:=smx (i:=0) (P:=[oS p]) (Q:=([none,some "in", some "north", some "key", some "tie"]:List (Option Str)).map oS) (a:=aCons (cL (oJ (a1 (c2 dIx (cL (oJ (aCons (cC D.non) (a1 (cS "with"))))) (c1 DN (c2 (dEq false) (cV 3) (cS "two"))))))) (a1 (cL (oJ (aCons (cC D.non) (aCons (cS "in") (aCons (cS "north") (aCons (cS "key") (a1 (cS "tie")))))))))) (λes=>[.pm es,L1,X,X3,s4,s5,s6]) (λ_=>rfl) (λ_ _=>rfl) (oR (pL (yu (oR ep rfl) (aL rfl))) rfl) h1 (by intro z;cases z) (by intro z;cases z) (aL rfl) (aL rfl);obtain⟨j,hj,rfl⟩:∃j∈jL,d4=oS j:=by
  rcases aV.mp hd4 with hd|hd
  ·exact⟨p,hp,bb.mp hd⟩
  ·obtain⟨o,ho,e⟩:=aI.mp hd;exact⟨o,(show ∀o∈([none,some "in", some "north", some "key", some "tie"]:List (Option Str)),o∈jL by decide) o ho,e.symm⟩
 let X4:Sl:=.im (oS j);let X5:Sl:=.im OD;obtain⟨dn,e3,x3,p0,p1,h3⟩:=dgx (i:=0) (b:=2) (a:=cC (.int 2)) (λes=>[.pm es,L1,X,X3,X4,X5,s6]) (λ_=>rfl) (λ_ _=>rfl) rfl h2 (by decide) (by decide);obtain⟨n,rfl⟩:=cZ p0;obtain⟨ws,e4,eL,hw,h4,x4⟩:=y8 hx L1 X3 X4 s6 (aT n) e3 h3;rw[bK]at eL;let X6:Sl:=.im (.tup (ws.map D.str));have c6:pd 6 (sH (cL (oT 1 [0,5,2] (iR1 (pJ o5 0 (a1 (cC (.int 2))))) (gN 0) pF (pJ oO 1 (aCons (cL (oJ (a1 (c2 sS (cV 3) (cS "s"))))) (a1 (cV 2))))))) [.pm e2,L1,X,X3,X4,X5,s6]=some (.nx [.pm e4,L1,X,X3,X4,X5,X6]):=by refine(ph (d:=.tup (ws.map D.str)) (ρ':=[.pm e4,L1,X,X3,X4,X5,s6]) ?_).trans rfl;unfold sH;rw[pL ((wz (Bj (n:=n) (ρ1:=[.pm e3,L1,X,X3,X4,X5,s6]) x3 (by omega)) (by rw[ag,bK];omega)).trans x4)]
 obtain⟨d7,e5,hd7,x5,h5⟩:=smx (i:=0) (P:=[.str x]) (Q:=(["put", "red", "restart", "in"]:List Str).map D.str) (a:=aCons (cL (oJ (a1 (cV 2)))) (a1 (cL (oJ (aCons (cS "put") (aCons (cS "red") (aCons (cS "restart") (a1 (cS "in"))))))))) (λes=>[.pm es,L1,X,X3,X4,X5,X6]) (λ_=>rfl) (λ_ _=>rfl) rfl h4 (by intro z;cases z) (by intro z;cases z) (aL rfl) (aL rfl);obtain⟨nn,hn,rfl⟩:=B9 (l:=x::(["put", "red", "restart", "in"]:List Str)) (L:=vnL) hd7 (λy hy=>by
  rcases aP.mp hy with rfl|hy
  ·exact bI _ hx
  ·exact bh _ hy)
 refine⟨⟨nn,ws,f,j⟩,e5,X3,X4,X5,X6,⟨hn,by show ws.length<=1;omega,hw,hf,hj⟩,h5,?_⟩;unfold vB;refine(oG ((ph x1).trans rfl)).trans ((oG ((ph x2).trans rfl)).trans ((oG (ρ':=[.pm e2,L1,X,X3,X4,X5,s6]) rfl).trans ((oG c6).trans ?_)));refine(tW (yw (es0:=P.map vkD) (es:=P.map vkD) (ρ1:=[.pm e5,L1,X,X3,X4,X5,X6]) (d:=vkD ⟨nn,ws,f,j⟩) rfl (zi (ds:=[.str nn,.tup (ws.map D.str),.str f,oS j]) (oR x5 rfl) rfl) rfl (by rw[ag];omega))).trans ?_;rw[bj];rfl
theorem Av:∀(l:List Str) (es:List L4.D) (P:List Vk) (s2 s3 s4 s5 s6:Sl),qG es->(∀x∈l,x∈v3)->(∀t∈P,VOk t)->P.length+l.length<=900->∃(P':List Vk) (es':List L4.D) (t2 t3 t4 t5 t6:Sl),(∀t∈P',VOk t)/\P'.length=P.length+l.length/\qG es'/\forL (gN 2) vB (l.map D.str) [.pm es,.ls (P.map vkD),s2,s3,s4,s5,s6]=some (.nx [.pm es',.ls (P'.map vkD),t2,t3,t4,t5,t6])
 |[],es,P,s2,s3,s4,s5,s6,h,_,ok,_=>⟨P,es,s2,s3,s4,s5,s6,ok,rfl,h,rfl⟩
 |x::l,es,P,s2,s3,s4,s5,s6,h,hx,ok,hl=>by
  rw[aA]at hl;obtain⟨t,e1,t3,t4,t5,t6,okt,h1,x1⟩:=Gq h P (by omega) (hx x aG) s3 s4 s5 s6;obtain⟨P',e2,u2,u3,u4,u5,u6,ok2,l2,h2,x2⟩:=Av l e1 (P++[t]) (.im (.str x)) t3 t4 t5 t6 h1 (λy hy=>hx y (aH _ hy)) (λu hu=>by
   rcases aV.mp hu with hu|hu
   ·exact ok u hu
   ·rw[bb.mp hu];exact okt) (by rw[au,bf];omega)
  refine⟨P',e2,u2,u3,u4,u5,u6,ok2,by rw[l2,au,bf,aA];omega,h2,?_⟩;rw[aF];unfold forL;rw[show gN 2 (.str x) [.pm es,.ls (P.map vkD),s2,s3,s4,s5,s6]=some [.pm es,.ls (P.map vkD),.im (.str x),s3,s4,s5,s6] from rfl];simp only[x1];exact x2
theorem Jg(h:qG es):∃(V:List Vk) (es':List L4.D),(∀v∈V,VOk v)/\V.length<=3/\vt es []=some (.lst (V.map vkD),es'):=by let U:Sl:=.un;obtain⟨d,e1,x1,p0,p1,h1⟩:=dgx (i:=0) (b:=4) (a:=cC (.int 4)) (λes=>[.pm es,.ls [],U,U,U,U,U]) (λ_=>rfl) (λ_ _=>rfl) rfl h (by decide) (by decide);obtain⟨n,rfl⟩:=cZ p0;obtain⟨V,e2,t2,t3,t4,t5,t6,ok,lV,h2,x2⟩:=Av (v3.take n) e1 [] U U U U U h1 (λx hx=>kc hx) (λt ht=>(by cases ht)) (by rw[bL,bg];omega);rw[bL,bg]at lV;refine⟨V,e2,ok,by rw[lV];have:=iX n v3.length;omega,zV (ρ:=[.pm e2,.un,t2,t3,t4,t5,t6]) rfl ?_ rfl⟩;unfold vq;refine(oG (ρ':=[.pm es,.ls [],U,U,U,U,U]) rfl).trans ?_;exact(oG ((pW (Jd (L:=v3) (ρ1:=[.pm e1,.ls [],U,U,U,U,U]) rfl x1 (by show n<=3;omega))).trans x2)).trans rfl
theorem Jh(l:List L4.D)(n:Nat):pH [.lst l,.int n]=some (.bl (decide (l.length<=n))):=by
 refine pX (ρ:=[.im (.lst l),.im (.int n)]) rfl ?_;refine qf ((qj rfl).trans (oV (x:=.int l.length) (y:=.int n) (pb rfl rfl) rfl ?_));show some (D.bl (decide ((l.length:Int)<=n)))=_;by_cases h:l.length<=n
 ·rw[aO h,aO (by omega)]
 ·rw[aU h,aU (by omega)]
variable{e':FE}
theorem yb(h:e ρ=some (.bl false,ρ1)):qu e e' ρ=some (.bl false,ρ1):=by unfold qu;rw[h]
variable{R:List Str}
theorem LC(hl:ds.length<=100)(hs:∀d∈ds,sOk d=true):(ds.all (λd=>isIn d R)=false->qY [.lst ds,.lst (R.map D.str)]=some false)/\(ds.all (λd=>isIn d R)=true->∀l:List Str,ds=l.map D.str->qY [.lst ds,.lst (R.map D.str)]=some (decide l.Nodup)):=by
 let A:Sl:=.im (.lst ds);let B:Sl:=.im (.lst (R.map D.str));let ρ0:List Sl:=[A,B,.un];have ea:c1 qW (cL (oT 1 [1] (iL (cV 0)) (gN 0) pF (oP pq (aCons (cV 0) (a1 (cV 1)))))) ρ0=some (.bl (ds.all λd=>isIn d R),ρ0):=qJ id (λd=>isIn d R) ds (ρ1:=ρ0) (by rw[gV];rfl) (by omega) λd hd=>⟨[.im d,B],[.im d,B],rfl,oX (ds:=[d,.lst (R.map D.str)]) rfl (yD (hs d hd) R),rfl⟩;have fin:∀b:Bool,qu (c1 qW (cL (oT 1 [1] (iL (cV 0)) (gN 0) pF (oP pq (aCons (cV 0) (a1 (cV 1))))))) (oP pK (a1 (cV 0))) ρ0=some (.bl b,ρ0)->qY [.lst ds,.lst (R.map D.str)]=some b:=λb h=>by
  let ρ:List Sl:=[A,B,.im (.bl b)];have e:pd 2 (qu (c1 (rP (qF "list")) (cV 0)) (qu (c1 qW (cL (oT 1 [1] (iL (cV 0)) (gN 0) pF (oP pq (aCons (cV 0) (a1 (cV 1))))))) (oP pK (a1 (cV 0))))) ρ0=some (.nx ρ):=(ph ((qj (ρ1:=ρ0) rfl).trans h)).trans rfl;cases b with
  |true=>refine D6 (ρ:=ρ) rfl ?_;unfold sX;exact(oG (q8 e)).trans (qc (ρ1:=ρ) rfl)
  |false=>refine yC (ρ:=ρ) rfl ?_;unfold sX;exact(oG (q8 e)).trans (uP (ρ1:=ρ) rfl)
 constructor
 ·intro h;rw[h]at ea;exact fin false (yb ea)
 ·intro h l el;rw[h]at ea;refine fin _ ((qj ea).trans (oX (ds:=[.lst ds]) rfl ?_));subst el;rw[ag]at hl;exact xk (by omega)
theorem Ji{κ:Type}[DecidableEq κ]:∀(ks acc:List κ),acc.Nodup->(ks.foldl (λacc k=>if k∈acc then acc else acc++[k]) acc).length<=acc.length+ks.length/\((ks.foldl (λacc k=>if k∈acc then acc else acc++[k]) acc).length=acc.length+ks.length ↔ (acc++ks).Nodup)
 |[],acc,h=>⟨aC _,by rw[bH];exact⟨λ_=>h,λ_=>rfl⟩⟩
 |k::ks,acc,h=>by
  rw[cA,aA];by_cases hk:k∈acc
  ·rw[ah hk];obtain⟨h1,h2⟩:=Ji ks acc h;exact⟨by omega,λz=>by omega,λz=>ao rfl ((bR.mp z).2.2 k hk k aG)⟩
  ·rw[ai hk];have h':(acc++[k]).Nodup:=bR.mpr ⟨h,by simp,λa ha b hb e=>by rw[bb]at hb;subst hb e;exact hk ha⟩;obtain⟨h1,h2⟩:=Ji ks (acc++[k]) h';rw[au,bf,bJ]at h2;rw[au,bf]at h1;refine⟨by omega,?_⟩;rw[show acc.length+(ks.length+1)=acc.length+1+ks.length by omega];exact h2
def prD(w:Wy):L4.D:=.tup [.str w.r,.str w.w]
def pk2(w:Wy):List Str:=[w.r,w.w]
theorem Dl:∀W:List Wy,yP (W.map prD)=some (W.map pk2)
 |[]=>rfl
 |w::W=>by rw[aF,aF];show (match key2 (prD w),yP (W.map prD)with|some k,some ks=>some (k::ks)|_,_=>none)=_;rw[Dl W];rfl
theorem Jj{W:List Wy}(hl:W.length<=20):pK [.lst (W.map prD)]=some (.bl (decide (W.map pk2).Nodup)):=by
 refine pX (ρ:=[.im (.lst (W.map prD))]) rfl ?_;have el:c1 rG (cV 0) [.im (.lst (W.map prD))]=some (.int W.length,[.im (.lst (W.map prD))]):=pb rfl (by show some (D.int _)=_;rw[ag]);obtain⟨h1,h2⟩:=Ji (W.map pk2) [] gB;rw[bg,eJ,ag,bM]at h2;rw[bg,eJ,ag]at h1;have es:vT pairsU (.lst (W.map prD))=some (.int (uqK (W.map pk2)).length):=by
  cases W with
  |nil=>rfl
  |cons w W=>show (match qv (prD w::W.map prD)with|some r=>some r|none=>pairsU ((w::W).map prD))=_;rw[show qv (prD w::W.map prD)=none from rfl];show pairsU ((w::W).map prD)=_;unfold pairsU;rw[Dl];simp only;rw[ah (by rw[ag];omega)]
 refine qf (oV (x:=.int (uqK (W.map pk2)).length) (y:=.int W.length) (pb rfl es) el ?_);rw[wD];show some (D.bl (decide (((uqK (W.map pk2)).length:Int)=W.length)))=_;have h2':(uqK (W.map pk2)).length=W.length ↔ (W.map pk2).Nodup:=h2;by_cases h:(W.map pk2).Nodup
 ·rw[aO h,aO (by have:=h2'.mpr h;omega)]
 ·rw[aU h,aU λz=>h (h2'.mp (by omega))]
def wB(a b c m:L4.D)(R l:List Str):Bool:=isIn a R&&(isT (p8 [b])&&(isIn c R&&(vv m||isIn m l)))
theorem Bl{a b c m:L4.D}(ha:sOk a=true)(hb:isB (p8 [b])=true)(hc:sOk c=true)(hm:sOk m=true):rS [.tup [a,b,c,m],.lst (R.map D.str),.lst (l.map D.str)]=some (.bl (wB a b c m R l)):=by
 let w:L4.D:=.tup [a,b,c,m];let ρ0:List Sl:=[.im w,.im (.lst (R.map D.str)),.im (.lst (l.map D.str)),.un];let x:Bool:=vv m||isIn m l;let ρ:List Sl:=[.im w,.im (.lst (R.map D.str)),.im (.lst (l.map D.str)),.im (.bl x)];refine pX (ρ:=ρ) rfl ?_;unfold Ap;refine(oG (ρ':=ρ0) rfl).trans ?_;have ex:cOr (c2 vc (c2 dIx (cV 0) (cC (.int 3))) (cC D.non)) (oP pq (aCons (c2 dIx (cV 0) (cC (.int 3))) (a1 (cV 2)))) ρ0=some (.bl x,ρ0):=by
  have en:vc m .non=some (.bl (vv m)):=by
   cases m with
   |_=>first|rfl|cases hm
  have e:c2 vc (c2 dIx (cV 0) (cC (.int 3))) (cC D.non) ρ0=some (.bl (vv m),ρ0):=oV (x:=m) (y:=.non) (oV (x:=w) (y:=.int 3) rfl rfl rfl) rfl en;have e2:oP pq (aCons (c2 dIx (cV 0) (cC (.int 3))) (a1 (cV 2))) ρ0=some (.bl (isIn m l),ρ0):=oX (ds:=[m,.lst (l.map D.str)]) (oR (oV (x:=w) (y:=.int 3) rfl rfl rfl) (oR rfl rfl)) (yD hm l);unfold cOr;rw[e];cases hq:vv m with
  |true=>show some (D.bl true,ρ0)=some (D.bl (vv m||isIn m l),ρ0);rw[hq];rfl
  |false=>show oP pq _ ρ0=some (D.bl (vv m||isIn m l),ρ0);rw[e2,hq];rfl
 refine(oG (ρ':=ρ) ((ph ex).trans rfl)).trans (qf ?_);have i0:oP pq (aCons (c2 dIx (cV 0) (cC (.int 0))) (a1 (cV 1))) ρ=some (.bl (isIn a R),ρ):=oX (ds:=[a,.lst (R.map D.str)]) rfl (yD ha R);have i1:oP p8 (a1 (c2 dIx (cV 0) (cC (.int 1)))) ρ=some (.bl (isT (p8 [b])),ρ):=oX (ds:=[b]) rfl (Ja hb);have i2:oP pq (aCons (c2 dIx (cV 0) (cC (.int 2))) (a1 (cV 1))) ρ=some (.bl (isIn c R),ρ):=oX (ds:=[c,.lst (R.map D.str)]) rfl (yD hc R);have i3:cV 3 ρ=some (.bl x,ρ):=rfl;unfold wB;show _=some (D.bl (isIn a R&&(isT (p8 [b])&&(isIn c R&&x))),ρ);generalize isIn a R=b0 at i0 ⊢;generalize isT (p8 [b])=b1 at i1 ⊢;generalize isIn c R=b2 at i2 ⊢;cases b0 with
 |false=>exact yb i0
 |true=>
  refine(qj i0).trans ?_;cases b1 with
  |false=>exact yb i1
  |true=>
   refine(qj i1).trans ?_;cases b2 with
   |false=>exact yb i2
   |true=>exact(qj i2).trans i3
theorem LF{ws:List L4.D}{R l:L4.D}(hl:ws.length<=10)(p:L4.D->Bool)(hp:∀w∈ws,rS [w,R,l]=some (.bl (p w)))(h:ws.all p=false):rV [.lst ws,R,l]=some false:=by
 let A:Sl:=.im (.lst ws);let B:Sl:=.im R;let C:Sl:=.im l;let ρ:List Sl:=[A,B,C,.im (.bl false)];have e:pd 3 (qu (oP pH (aCons (cV 0) (a1 (cC tZ)))) (c1 qW (cL (oT 1 [1,2] (iL (cV 0)) (gN 0) pF (oP rS (aCons (cV 0) (aCons (cV 1) (a1 (cV 2))))))))) [A,B,C,.un]=some (.nx ρ):=
  (ph ((qj (oX (ds:=[.lst ws,.int 10]) rfl ((Jh ws 10).trans (by rw[aO hl])))).trans ((qJ id p ws (ρ1:=[A,B,C,.un]) (by rw[gV];rfl) (by omega) λw hw=>⟨[.im w,B,C],[.im w,B,C],rfl,oX (ds:=[w,R,l]) rfl (hp w hw),rfl⟩).trans (by rw[h])))).trans rfl
 refine yC (ρ:=ρ) rfl ?_;unfold rT;exact(oG (q8 e)).trans (y4 (uP (ρ1:=ρ) rfl))
theorem LG{W:List Wy}(hl:W.length<=10)(h:∀w∈W,wB (.str w.r) (.str w.w) (.str w.g) (oS w.m) R l=true/\isB (p8 [.str w.w])=true):rV [.lst (W.map wyD),.lst (R.map D.str),.lst (l.map D.str)]=some (decide (W.map pk2).Nodup):=by
 let A:Sl:=.im (.lst (W.map wyD));let B:Sl:=.im (.lst (R.map D.str));let C:Sl:=.im (.lst (l.map D.str));let ρ:List Sl:=[A,B,C,.im (.bl true)];have so:∀o:Option Str,sOk (oS o)=true:=λo=>by cases o<;>rfl
 have e:pd 3 (qu (oP pH (aCons (cV 0) (a1 (cC tZ)))) (c1 qW (cL (oT 1 [1,2] (iL (cV 0)) (gN 0) pF (oP rS (aCons (cV 0) (aCons (cV 1) (a1 (cV 2))))))))) [A,B,C,.un]=some (.nx ρ):=
  (ph ((qj (oX (ds:=[.lst (W.map wyD),.int 10]) rfl ((Jh _ 10).trans (by rw[ag,aO hl])))).trans ((qJ wyD (λ_=>true) W (ρ1:=[A,B,C,.un]) rfl (by omega) λw hw=>⟨[.im (wyD w),B,C],[.im (wyD w),B,C],rfl,oX (ds:=[wyD w,.lst (R.map D.str),.lst (l.map D.str)]) rfl ((Bl rfl (h w hw).2 rfl (so w.m)).trans (by rw[(h w hw).1])),rfl⟩).trans (by rw[B6 λ_ _=>rfl])))).trans rfl
 have ep:oP pK (a1 (cL (oT 1 [] (iL (cV 0)) (gN 0) pF (sU (aCons (c2 dIx (cV 0) (cC (.int 0))) (a1 (c2 dIx (cV 0) (cC (.int 1))))))))) ρ=some (.bl (decide (W.map pk2).Nodup),ρ):=
  oX (oR (pL (uc wyD prD W (ρ1:=ρ) rfl (by omega) λw _=>⟨[.im (wyD w)],[.im (wyD w)],rfl,rfl,rfl⟩)) rfl) (Jj (by omega))
 generalize decide (W.map pk2).Nodup=b at ep ⊢;cases b with
 |true=>refine D6 (ρ:=ρ) rfl ?_;unfold rT;exact(oG (q8 e)).trans ((oG (qc (ρ1:=ρ) rfl)).trans (qc ep))
 |false=>refine yC (ρ:=ρ) rfl ?_;unfold rT;exact(oG (q8 e)).trans ((oG (qc (ρ1:=ρ) rfl)).trans (uP ep))
variable{b:Bool}
theorem LH(h:e ρ=some (.bl b,ρ1)):BN e ρ=some (.bl !b,ρ1):=by unfold BN;rw[h]
def apB(l m:List Str):Bool:=!l.any λx=>decide (x∈m)
theorem Aw{m:List Str}{d:L4.D}(hd:d=.lst (m.map D.str)\/d=.tup (m.map D.str))(hl:l.length<=900):pY [.lst (l.map D.str),d]=some (.bl (apB l m)):=by
 let ρ:List Sl:=[.im (.lst (l.map D.str)),.im d];refine pX (ρ:=ρ) rfl ?_;have e:c1 zY (cL (oT 1 [1] (iL (cV 0)) (gN 0) pF (c2 (dIn false) (cV 0) (cV 1)))) ρ=some (.bl (l.any λx=>decide (x∈m)),ρ):=E6 D.str (λx=>decide (x∈m)) l rfl (by omega) λx hx=>⟨[.im (.str x),.im d],[.im (.str x),.im d],rfl,oV rfl rfl (by
  rcases hd with rfl|rfl
  ·rw[qb];rfl
  ·rw[xP];rfl),rfl⟩
 exact qf (LH e)
def tw(t:Tk):List Str:=match t.w with
 |.tup ds=>ds.map nS
 |_=>[]
def Vk.ws(v:Vk):List Str:=v.n::v.o
def k9:List Vk:=[⟨"take", [],"one", none⟩,⟨"drop", [],"one", none⟩,⟨"open", [],"one", none⟩,⟨"shut", [],"one", none⟩,⟨"light", [],"one", none⟩,⟨"douse", [],"one", none⟩,⟨"put", [],"two", some "in"⟩,⟨"go", [],"way", none⟩,⟨"wait", [],"alone", none⟩]
theorem Mq:v9=k9.map vkD:=rfl
def nwL:List Str:=["the", "a", "undo", "restart"]
theorem Ax{a b c s5 s6 s7:Sl}:∀(P:List Tk) (acc:List Str) (s:Sl),acc.length+4 * P.length<=900->(∀t∈P,t.w=.tup ((tw t).map D.str)/\(tw t).length<=4)->
  ∃s':Sl,forL (gN 4) (qD (vS 3 (c1 (oH pj "words") (cV 4)))) (P.map tkD) [a,b,c,.ls (acc.map D.str),s,s5,s6,s7]=some (.nx [a,b,c,.ls ((acc++P.flatMap tw).map D.str),s',s5,s6,s7])
 |[],acc,s,_,_=>⟨s,by simp;rfl⟩
 |t::P,acc,s,hl,hw=>by
  obtain⟨ew,h3⟩:=hw t aG;rw[aA]at hl;obtain⟨s',e⟩:=Ax P (acc++tw t) (.im (tkD t)) (by rw[au];omega) (λu hu=>hw u (aH _ hu));refine⟨s',?_⟩;rw[aF];unfold forL;have e1:qD (vS 3 (c1 (oH pj "words") (cV 4))) [a,b,c,.ls (acc.map D.str),.im (tkD t),s5,s6,s7]=some (.nx [a,b,c,.ls ((acc++tw t).map D.str),.im (tkD t),s5,s6,s7]):=by refine(tW (d:=.non) (ρ':=[a,b,c,.ls ((acc++tw t).map D.str),.im (tkD t),s5,s6,s7]) ?_);unfold vS;rw[show c1 (oH pj "words") (cV 4) [a,b,c,.ls (acc.map D.str),.im (tkD t),s5,s6,s7]=some (.tup ((tw t).map D.str),[a,b,c,.ls (acc.map D.str),.im (tkD t),s5,s6,s7]) from pb rfl ((ud t).trans (aX some ew))];show (if (acc.map D.str).length+((tw t).map D.str).length<=1000 then some (D.non,[a,b,c,.ls (acc.map D.str++(tw t).map D.str),.im (tkD t),s5,s6,s7])else none)=_;rw[ah (by rw[ag,ag];omega),bj]
  rw[show gN 4 (tkD t) [a,b,c,.ls (acc.map D.str),s,s5,s6,s7]=some [a,b,c,.ls (acc.map D.str),.im (tkD t),s5,s6,s7] from rfl];simp only[e1];rw[e,dA,bJ]
theorem E9{a b c s3 s4 s7:Sl}:∀(V:List Vk) (acc:List Str) (s:Sl),acc.length+3 * V.length<=900->(∀v∈V,v.o.length<=2)->
  ∃s',forL (gN 6) (qD (vS 5 (vR (sU (a1 (c1 (oH oQ "name") (cV 6)))) (c1 (oH pR "others") (cV 6))))) (V.map vkD) [a,b,c,s3,s4,.ls (acc.map D.str),s,s7]=some (.nx [a,b,c,s3,s4,.ls ((acc++V.flatMap Vk.ws).map D.str),s',s7])
 |[],acc,s,_,_=>⟨s,by simp;rfl⟩
 |v::V,acc,s,hl,hw=>by
  have h3:=hw v aG;rw[aA]at hl;have lw:v.ws.length<=3:=by unfold Vk.ws;rw[aA];omega
  obtain⟨s',e⟩:=E9 (a:=a) (b:=b) (c:=c) (s3:=s3) (s4:=s4) (s7:=s7) V (acc++v.ws) (.im (vkD v)) (by rw[au];omega) λu hu=>hw u (aH _ hu);refine⟨s',?_⟩;rw[aF];unfold forL;let ρ:List Sl:=[a,b,c,s3,s4,.ls (acc.map D.str),.im (vkD v),s7];have e0:vR (sU (a1 (c1 (oH oQ "name") (cV 6)))) (c1 (oH pR "others") (cV 6)) ρ=some (.tup (v.ws.map D.str),ρ):=by show (if ([]:List L4.D).length+(v.o.map D.str).length<=900 then some (D.tup (.str v.n::[]++v.o.map D.str),ρ)else none)=_;rw[ah (by rw[ag];simp only[bg];omega)];rfl
  have e1:qD (vS 5 (vR (sU (a1 (c1 (oH oQ "name") (cV 6)))) (c1 (oH pR "others") (cV 6)))) ρ=some (.nx [a,b,c,s3,s4,.ls ((acc++v.ws).map D.str),.im (vkD v),s7]):=by refine tW (d:=.non) ?_;unfold vS;rw[e0];show (if (acc.map D.str).length+(v.ws.map D.str).length<=1000 then some (D.non,[a,b,c,s3,s4,.ls (acc.map D.str++v.ws.map D.str),.im (vkD v),s7])else none)=_;rw[ah (by rw[ag,ag];omega),bj]
  rw[show gN 6 (vkD v) [a,b,c,s3,s4,.ls (acc.map D.str),s,s7]=some ρ from rfl];simp only[e1];rw[e,dA,bJ]
def jsN(V:List Vk):List Str:=V.filterMap Vk.j
theorem RK(V:List Vk)(hl:V.length<=900)(h2:cV 2 ρ=some (.lst (V.map vkD),ρ)):oT 1 [] (iL (cV 2)) (gN 0) (cT (c2 rO (c1 (oH pz "joining") (cV 0)) (cC D.non))) (c1 (oH pz "joining") (cV 0)) ρ=some ((jsN V).map D.str,ρ):=by
 have hs:iL (cV 2) ρ=some (V.map vkD,ρ):=by unfold iL;rw[h2]
 refine(qI (k:=1) (cap:=[]) (g:=gN 0) (ft:=cT (c2 rO (c1 (oH pz "joining") (cV 0)) (cC D.non))) (fe:=c1 (oH pz "joining") (cV 0)) vkD (λv=>oS v.j) (λv=>v.j.isSome) V hs (by omega) λv _=>⟨[.im (vkD v)],[.im (vkD v)],rfl,?_,λ_=>⟨[.im (vkD v)],rfl,rfl⟩,λ_=>rfl⟩).trans ?_
 ·obtain⟨n,o,f,j⟩:=v;cases j<;>rfl
 ·congr 2;unfold jsN;clear hs h2 hl
  induction V with
  |nil=>rfl
  |cons v V ih=>
   obtain⟨n,o,f,j⟩:=v;cases j with
   |none=>rw[List.filter_cons_of_neg (by simp),jK rfl];exact ih
   |some x=>rw[List.filter_cons_of_pos (by simp)];exact aX (D.str x::·) ih
def Jk(O U bt:List Str):Bool:=decide U.Nodup&&(apB (U++bt) O&&(apB (U++bt) nwL&&apB bt U))
theorem Jl{W:List Wy}{V:List Vk}(hl:T.length<=20)(hw:∀t∈plN T,t.w=.tup ((tw t).map D.str)/\(tw t).length<=4)(hW:W.length<=20)(hV:V.length<=40)(ho:∀v∈V,v.o.length<=2):
  rq [LD T,.lst (W.map wyD),.lst (V.map vkD)]=some (Jk ((plN T).flatMap tw) (V.flatMap Vk.ws) (jsN V++W.map Wy.w)):=by
 let P:=plN T;have hP:P.length<=20:=bp (dP _ _) hl;let A:Sl:=.im (LD T);let B:Sl:=.im (.lst (W.map wyD));let C:Sl:=.im (.lst (V.map vkD));obtain⟨s',e1⟩:=Ax (a:=A) (b:=B) (c:=C) (s5:=.un) (s6:=.un) (s7:=.un) P [] .un (by simp;omega) hw;let O:=P.flatMap tw;let U:=V.flatMap Vk.ws;let m1:Sl:=.ls (O.map D.str);obtain⟨z,e2⟩:=E9 (a:=A) (b:=B) (c:=C) (s3:=m1) (s4:=s') (s7:=.un) V [] .un (by simp;omega) ho;let bt:List Str:=jsN V++W.map Wy.w;let Z:Sl:=.im (.lst (bt.map D.str));have lU:U.length<=120:=by
  have:∀V:List Vk,(∀v∈V,v.o.length<=2)->(V.flatMap Vk.ws).length<=3 * V.length:=by
   intro V
   induction V with
   |nil=>exact λ_=>aC _
   |cons v V ih=>intro h;have h1:=h v aG;have h2:=ih λu hu=>h u (aH _ hu);rw[dA,au,aA];show (v.n::v.o).length+_<=_;rw[aA];omega
  have:=this V ho;show (V.flatMap Vk.ws).length<=120;omega
 have lJ:(jsN V).length<=40:=bp (jM _ _) hV;have lB:bt.length<=60:=by show (jsN V++W.map Wy.w).length<=60;rw[au,ag];omega
 have lUB:(U++bt).length<=900:=by rw[au];omega
 let UL:L4.D:=.lst (U.map D.str);have hd:∀{o:Out},(oK (sXp oI (aCons (oP pK (a1 (cFz 5))) (a1 (cS "two verbs' names are alike"))))
 (oK (sXp oI (aCons (oP pY (aCons (cL (qa (cFz 5) (cV 7))) (a1 (cFz 3)))) (a1 (cS "a verb's, way's or joining word is a word of a thing"))))
 (oK (sXp oI (aCons (oP pY (aCons (cL (qa (cFz 5) (cV 7))) (a1 (cC qw)))) (a1 (cS "the, a, undo or restart is a word of the world"))))
 (sXp oI (aCons (oP pY (aCons (cV 7) (a1 (cFz 5)))) (a1 (cS "a way's or joining word is a verb's name"))))))) [A,B,C,m1,s',.ls (U.map D.str),z,Z]=some o->qy (stE 8 [LD T,.lst (W.map wyD),.lst (V.map vkD)])=some o:=λ{o} q=>by
  unfold qy;refine(oG (ρ':=[A,B,C,.ls [],.un,.un,.un,.un]) rfl).trans ?_;refine(oG (ρ':=[A,B,C,m1,s',.un,.un,.un]) (q8 ((pW (ds:=P.map tkD) (ρ1:=[A,B,C,.ls [],.un,.un,.un,.un]) ?_).trans e1))).trans ?_
  ·unfold iL;rw[pL (oX (g:=qx) (ds:=[LD T]) (ρ1:=[A,B,C,.ls [],.un,.un,.un,.un]) rfl (uz T (by omega)))]
  refine(oG (ρ':=[A,B,C,m1,s',.ls [],.un,.un]) rfl).trans ?_;refine(oG (ρ':=[A,B,C,m1,s',.ls (U.map D.str),z,.un]) (q8 ((pW (ds:=V.map vkD) (ρ1:=[A,B,C,m1,s',.ls [],.un,.un]) rfl).trans e2))).trans ?_;refine(oG (ρ':=[A,B,C,m1,s',.ls (U.map D.str),z,Z]) (q8 ((ph (pL (qP (pL (RK V (by omega) rfl)) (pL (uc wyD (λw=>.str w.w) W (ρ1:=[A,B,C,m1,s',.ls (U.map D.str),z,.un]) rfl (by omega) λw _=>⟨[.im (wyD w)],[.im (wyD w)],rfl,rfl,rfl⟩)) (by rw[ag,ag];omega)))).trans ?_))).trans q;show some (Out.nx [A,B,C,m1,s',.ls (U.map D.str),z,.im (.lst ((jsN V).map D.str++W.map λw=>.str w.w))])=_;rw[show (jsN V).map D.str++(W.map λw=>D.str w.w)=bt.map D.str by show _=(jsN V++W.map Wy.w).map D.str;rw[bj,bx];rfl]
 have x1:oP pK (a1 (cFz 5)) [A,B,C,m1,s',.ls (U.map D.str),z,Z]=some (.bl (decide U.Nodup),[A,B,C,m1,s',.im UL,z,Z]):=oX (ds:=[UL]) rfl (xk (by omega));have ca:∀(q:Sl),cL (qa (cFz 5) (cV 7)) [A,B,C,q,s',.im UL,z,Z]=some (.lst ((U++bt).map D.str),[A,B,C,q,s',.im UL,z,Z]):=λq=>(pL (qP (xs:=U.map D.str) (ys:=bt.map D.str) (ρ1:=[A,B,C,q,s',.im UL,z,Z]) rfl rfl (by rw[ag,ag];omega))).trans (by rw[<-bj]);let OI:Sl:=.im (.lst (O.map D.str));have x2:oP pY (aCons (cL (qa (cFz 5) (cV 7))) (a1 (cFz 3))) [A,B,C,m1,s',.im UL,z,Z]=some (.bl (apB (U++bt) O),[A,B,C,OI,s',.im UL,z,Z]):=oX (oR (ca m1) (oR rfl rfl)) (Aw (l:=U++bt) (m:=O) (.inl rfl) lUB);have x3:oP pY (aCons (cL (qa (cFz 5) (cV 7))) (a1 (cC qw))) [A,B,C,OI,s',.im UL,z,Z]=some (.bl (apB (U++bt) nwL),[A,B,C,OI,s',.im UL,z,Z]):=oX (oR (ca OI) (oR rfl rfl)) (Aw (l:=U++bt) (m:=nwL) (.inr rfl) lUB);have x4:oP pY (aCons (cV 7) (a1 (cFz 5))) [A,B,C,OI,s',.im UL,z,Z]=some (.bl (apB bt U),[A,B,C,OI,s',.im UL,z,Z]):=oX (oR rfl (oR rfl rfl)) (Aw (l:=bt) (m:=U) (.inl rfl) (by omega));show _=some (decide U.Nodup&&(apB (U++bt) O&&(apB (U++bt) nwL&&apB bt U)));generalize decide U.Nodup=b1 at x1 ⊢;generalize apB (U++bt) O=b2 at x2 ⊢;generalize apB (U++bt) nwL=b3 at x3 ⊢;generalize apB bt U=b4 at x4 ⊢;cases b1 with
 |false=>exact yC rfl (hd (y4 (uP x1)))
 |true=>
  cases b2 with
  |false=>exact yC rfl (hd ((oG (qc x1)).trans (y4 (uP x2))))
  |true=>
   cases b3 with
   |false=>exact yC rfl (hd ((oG (qc x1)).trans ((oG (qc x2)).trans (y4 (uP x3)))))
   |true=>
    cases b4 with
    |false=>exact yC rfl (hd ((oG (qc x1)).trans ((oG (qc x2)).trans ((oG (qc x3)).trans (uP x4)))))
    |true=>exact D6 rfl (hd ((oG (qc x1)).trans ((oG (qc x2)).trans ((oG (qc x3)).trans (qc x4)))))
theorem RM(l:List L4.D)(n:Int)(h:(l.length:Int)<=n):pH [.lst l,.int n]=some (.bl true):=by refine pX (ρ:=[.im (.lst l),.im (.int n)]) rfl ?_;exact qf ((qj rfl).trans (Mo (x:=l.length) (y:=n) (pb rfl rfl) rfl h))
theorem RN{vs:List L4.D}(p:L4.D->Bool)(hp:∀v∈vs,rF [v]=some (.bl (p v)))(hl:vs.length<=6):sr [.lst vs]=some (vs.all p):=by
 let ρ:List Sl:=[.im (.lst vs),.im (.bl (vs.all p))];have e:pd 1 (qu (oP pH (aCons (cV 0) (a1 (cC vh)))) (c1 qW (cL (oT 1 [] (iL (cV 0)) (gN 0) pF (oP rF (a1 (cV 0))))))) [.im (.lst vs),.un]=some (.nx ρ):=
  (ph ((qj (oX (ds:=[.lst vs,.int 6]) rfl (RM vs 6 (by omega)))).trans (qJ id p vs (ρ1:=[.im (.lst vs),.un]) (by rw[gV];rfl) (by omega) λv hv=>⟨[.im v],[.im v],rfl,oX rfl (hp v hv),rfl⟩))).trans rfl
 cases hb:vs.all p with
 |true=>refine D6 (ρ:=ρ) rfl ?_;unfold sq;refine(oG (q8 e)).trans ?_;exact qc (show cV 1 ρ=some (.bl true,ρ) by show some (D.bl (vs.all p),ρ)=_;rw[hb])
 |false=>refine yC (ρ:=ρ) rfl ?_;unfold sq;refine(oG (q8 e)).trans ?_;exact uP (show cV 1 ρ=some (.bl false,ρ) by show some (D.bl (vs.all p),ρ)=_;rw[hb])
def bo(b:Bool)(ρ:List Sl):Out:=if b then .nx ρ else .bk ρ
def RB(f:FS)(ρ:List Sl)(b:Bool):Prop:=∃ρ',f ρ=some (bo b ρ')
theorem Jm{m:L4.D}(h:e ρ=some (.bl b,ρ1)):sXp oI (aCons e (aCons (cC m) pC)) ρ=some (bo b ρ1):=by
 cases b with
 |true=>exact qc h
 |false=>exact uP h
theorem Ca{a:FA}(h:a ρ=some (ds,ρ1))(e:q ds=some b):sXp q a ρ=some (bo b ρ1):=by
 cases b with
 |true=>exact RA h e
 |false=>exact RD h e
variable{f f':FS}{b':Bool}
theorem RB.seq(h:f ρ=some (bo b ρ1))(h':b=true->RB f' ρ1 b'):RB (oK f f') ρ (b&&b'):=by
 cases b with
 |true=>obtain⟨ρ',e⟩:=h' rfl;exact⟨ρ',(oG h).trans e⟩
 |false=>exact⟨ρ1,y4 h⟩
theorem RB.nx(h:f ρ=some (.nx ρ1))(h':RB f' ρ1 b):RB (oK f f') ρ b:=by obtain⟨ρ',e⟩:=h';exact⟨ρ',(oG h).trans e⟩
variable{np:Nat}
theorem LI{n:Nat}(h:ds.length=np)(r:RB f (stE n ds) b):fnX np n f ds=some b:=by
 obtain⟨ρ',e⟩:=r;cases b with
 |true=>exact D6 h e
 |false=>exact yC h e
theorem yc{b c:FE}{x z:Int}(h1:a ρ=some (.int x,ρ))(h2:b ρ=some (.int y,ρ))(h3:c ρ=some (.int z,ρ)):qO sG sG a b c ρ=some (.bl (decide (x<=y)&&decide (y<=z)),ρ):=by
 have e1:sG (.int x) (.int y)=some (.bl (decide (x<=y))):=rfl;have e2:sG (.int y) (.int z)=some (.bl (decide (y<=z))):=rfl;unfold qO;rw[h1];simp only[h2];cases hd:decide (x<=y)with
 |true=>rw[hd]at e1;simp only[e1,h3,e2];rfl
 |false=>rw[hd]at e1;simp only[e1];rfl
variable{M:List Mk}
section
variable{T:List Tk}(hl:T.length<=7)(hn:∀t∈T,t.n=.str t.m)
def kB(T:List Tk):Bool:=(decide ((1:Int)<=cK .room T)&&decide ((cK .room T:Int)<=5))&&decide ((cK .you T:Int)=1)
include hl in
theorem Gr:tQ [LD T]=some (kB T):=by
 let ρ:List Sl:=[.im (LD T),.im (.bl true)];have hp:(plN T).length<=7:=bp (dP _ _) hl;refine LI rfl ?_;unfold tP;refine RB.nx (q8 (show _=some (Out.nx ρ) from(ph ((qj rfl).trans ((qJ tkD (λ_=>true) T (ρ1:=[.im (LD T),.un]) rfl (by omega) λt ht=>⟨_,_,rfl,rfl,rfl⟩).trans (by rw[B6 λ_ _=>rfl])))).trans rfl)) ?_;refine RB.nx (qc (ρ1:=ρ) rfl) ?_;refine RB.nx (qc (ρ1:=ρ) ((qJ tkD (λ_=>true) T rfl (by omega) λt _=>⟨[.im (tkD t)],[.im (tkD t)],rfl,oX (oR (pb rfl (qB t)) (oR rfl rfl)) (Lx t.k),rfl⟩).trans (by rw[B6 λ_ _=>rfl]))) ?_;refine RB.seq (ρ1:=ρ) (Jm (yc (x:=1) (y:=cK .room T) (z:=5) rfl (oX (ds:=[LD T,.str Kd.room.s]) rfl (count_eq T (by omega) .room)) rfl)) λ_=>?_;have q:RB (oK (sXp oI (aCons (c2 (dEq false) (oP tN (aCons (cV 0) (a1 (cS "you")))) (cC (.int 1))) (a1 (cS "a world has just one you")))) (sXp oI (aCons (c2 sG (c1 rG (cL (qe qx (a1 (cV 0))))) (cC uh)) (a1 (cS "a world has at most 7 things beside rooms and you"))))) ρ (decide ((cK .you T:Int)=1)&&true):=by refine RB.seq (ρ1:=ρ) (Jm (oV (ρ1:=ρ) (x:=.int (cK .you T)) (y:=.int 1) (oX (ds:=[LD T,.str Kd.you.s]) rfl (count_eq T (by omega) .you)) rfl (wD false _ 1))) λ_=>?_;refine⟨ρ,qc (ρ1:=ρ) (Mo (x:=(plN T).length) (y:=7) (pb (pL (oX rfl (uz T (by omega)))) ?_) rfl (by omega))⟩;show some (D.int _)=_;rw[ag]
 rw[ja]at q;exact q
def mOk(m:Mk):Bool:=(decide (1<=m.mo)&&decide (m.mo<=3))&&(decide (0<=m.st)&&decide (m.st<=m.mo))
theorem P0(n:Str):(i6.all λa=>i6.all λb=>match wG [mkD ⟨n,a,b⟩]with|some (.bl c)=>c==mOk ⟨n,a,b⟩|_=>false)=true:=by kernel_rfl
theorem Ec{m:Mk}(h:MOk m):wG [mkD m]=some (.bl (mOk m)):=by
 have q:=aD.mp (aD.mp (P0 m.n) m.st h.st) m.mo h.mo;split at q
 ·rename_i c e;rw[beq_iff_eq]at q;rw[q]at e;exact e
 ·cases q
theorem Jn(hM:M.length<=3)(ok:∀m∈M,MOk m):uj [MD M]=some (M.all mOk):=by let ρ:List Sl:=[.im (MD M),.im (.bl (M.all mOk))];refine LI rfl ?_;unfold ui;refine RB.nx (ρ1:=ρ) (q8 ((ph ((qj (oX (ρ1:=[.im (MD M),.un]) (ds:=[MD M,.int (4:Nat)]) rfl ((Jh _ 4).trans (by rw[ag,aO (by omega)])))).trans (qJ mkD mOk M (ρ1:=[.im (MD M),.un]) rfl (by omega) λm hm=>⟨[.im (mkD m)],[.im (mkD m)],rfl,oX rfl (Ec (ok m hm)),rfl⟩))).trans rfl)) ?_;exact⟨ρ,Jm rfl⟩
def nmB(x:Str):Bool:=isT (sg [.str x])
def aN(T:List Tk)(M:List Mk):List Str:=T.map Tk.m++M.map Mk.n
include hl hn in
theorem Jo(hM:M.length<=3)(tot:∀x∈aN T M,isB (sg [.str x])=true):uo [LD T,MD M]=some ((aN T M).all nmB&&decide (aN T M).Nodup):=by
 let ρ0:List Sl:=[.im (LD T),.im (MD M),.un];let ρ:List Sl:=[.im (LD T),.im (MD M),.im (.lst ((aN T M).map D.str))];have la:(aN T M).length<=20:=by unfold aN;rw[au,ag,ag];omega
 have e1:oT 1 [] (iL (cV 0)) (gN 0) pF (c1 (oH oQ "name") (cV 0)) ρ0=some ((T.map Tk.m).map D.str,ρ0):=(uc tkD Tk.n T rfl (by omega) λt _=>⟨_,_,rfl,pb rfl (rD t),rfl⟩).trans (by rw[bx,iC λt ht=>hn t ht];rfl);have e2:oT 1 [] (iL (cV 1)) (gN 0) pF (c1 (oH oQ "name") (cV 0)) ρ0=some ((M.map Mk.n).map D.str,ρ0):=(uc mkD (λm=>D.str m.n) M rfl (by omega) λt _=>⟨_,_,rfl,pb rfl (zk t),rfl⟩).trans (by rw[bx];rfl);have e3:pd 2 (cL (qa (cL (oT 1 [] (iL (cV 0)) (gN 0) pF (c1 (oH oQ "name") (cV 0)))) (cL (oT 1 [] (iL (cV 1)) (gN 0) pF (c1 (oH oQ "name") (cV 0)))))) ρ0=some (.nx ρ):=by refine(ph (pL (qP (pL e1) (pL e2) (by rw[ag,ag,ag,ag];omega)))).trans ?_;rw[<-bj];rfl
 refine LI rfl ?_;unfold um;refine RB.nx (q8 e3) ?_;refine RB.seq (ρ1:=ρ) (Jm (qJ D.str nmB (aN T M) (ρ1:=ρ) rfl (by omega) λx hx=>⟨[.im (.str x)],[.im (.str x)],rfl,oX rfl (Ja (tot x hx)),rfl⟩)) λ_=>?_;exact⟨ρ,Jm (oX (ds:=[.lst ((aN T M).map D.str)]) rfl (xk (by omega)))⟩
def nxT(T:List Tk)(t:Tk):Tk:=(T.find? λu=>isIn t.s [u.m]).getD t
def rc(T:List Tk):Nat->Tk->Bool
 |0,t=>vv t.s
 |n+1,t=>vv t.s||rc T n (nxT T t)
theorem Fb{u:Tk}:∀{T:List Tk},(T.map Tk.m).Nodup->u∈T->T.find? (λv=>isIn (.str u.m) [v.m])=some u
 |[],_,hu=>by cases hu
 |v::T,nd,hu=>by
  rw[aF,dD]at nd;rw[dc];by_cases c:u.m=v.m
  ·rw[show isIn (.str u.m) [v.m]=true from aO (bb.mpr c)];rcases aP.mp hu with rfl|hu
   ·rfl
   ·exact ao (c▸cM hu) nd.1
  ·rw[show isIn (.str u.m) [v.m]=false from aU λz=>c (bb.mp z)];rcases aP.mp hu with rfl|hu
   ·exact ao rfl c
   ·exact Fb nd.2 hu
theorem Fc(nd:(T.map Tk.m).Nodup)(hu:u∈T)(e:t.s=.str u.m):nxT T t=u:=by unfold nxT;rw[e];show (T.find? λv=>isIn (.str u.m) [v.m]).getD t=u;rw[Fb nd hu];rfl
theorem yE(h:T.all (stB T)=true)(ht:t∈T):(t.k=.room/\t.s=.non)\/(t.k≠.room/\∃u∈T,t.s=.str u.m/\u.k.hd=true/\(t.k=.you->u.k=.room)):=by
 have q:=aD.mp h t ht;have nm:∀{p:Tk->Bool},isIn t.s ((T.filter p).map Tk.m)=true->∃u∈T,t.s=.str u.m/\p u=true:=λ{p} q=>by
  unfold isIn at q;split at q
  ·rename_i x e;obtain⟨u,hu,rfl⟩:=aI.mp (bC q);exact⟨u,(bu.mp hu).1,e,(bu.mp hu).2⟩
  ·cases q
 unfold stB at q;split at q
 ·rename_i e;refine .inl ⟨e,?_⟩;unfold vv at q;split at q
  ·assumption
  ·cases q
 ·rename_i e;obtain⟨u,hu,e1,e2⟩:=nm q;have e2:=bC e2;exact .inr ⟨by rw[e];decide,u,hu,e1,by rw[e2];rfl,λ_=>e2⟩
 ·rename_i n1 n2;obtain⟨u,hu,e1,e2⟩:=nm q;exact .inr ⟨n1,u,hu,e1,e2,λz=>ao z n2⟩
include hl hn in
theorem Jp(nd:(T.map Tk.m).Nodup)(h:T.all (stB T)=true)(ht:t∈T):pU [stD T,.str t.m]=some (.bl (rc T T.length t)):=by
 have loop:∀(l:List L4.D) (u:Tk) (s:Sl),u∈T->(∃ρ,forL (gN 3) cB l [.im (stD T),.im (.str t.m),.im u.s,s]=some (.rt (.bl true) ρ)/\rc T l.length u=true)\/∃d s',forL (gN 3) cB l [.im (stD T),.im (.str t.m),.im u.s,s]=some (.nx [.im (stD T),.im (.str t.m),.im d,s'])/\vc d .non=some (.bl (rc T l.length u)):=by
  intro l
  induction l with
  |nil=>intro u s hu;refine .inr ⟨u.s,s,rfl,?_⟩;show vc u.s .non=some (.bl (vv u.s));rcases yE h hu with ⟨_,e⟩|⟨_,v,_,e,_⟩<;>rw[e]<;>rfl
  |cons d l ih=>
   intro u s hu;rcases yE h hu with ⟨_,e⟩|⟨_,v,hv,e,_⟩
   ·refine .inl ⟨[.im (stD T),.im (.str t.m),.im .non,.im d],?_,?_⟩
    ·rw[e];rfl
    ·show (vv u.s||_)=true;rw[e];rfl
   ·have st:forL (gN 3) cB (d::l) [.im (stD T),.im (.str t.m),.im u.s,s]=forL (gN 3) cB l [.im (stD T),.im (.str t.m),.im v.s,.im d]:=by
     rw[e]
     conv=>lhs;unfold forL
     rw[show gN 3 d [.im (stD T),.im (.str t.m),.im (.str v.m),s]=some [.im (stD T),.im (.str t.m),.im (.str v.m),.im d] from rfl];simp only[RF (by omega) nd hv]
    have er:rc T (d::l).length u=rc T l.length v:=by show (vv u.s||rc T l.length (nxT T u))=_;rw[Fc nd hv e,e];rfl
    rw[st,er];exact ih v (.im d) hv
 have ll:(wJ 0 T.length).length=T.length:=by unfold wJ;rw[ag,bK]
 obtain⟨r1,r2⟩:=Gk (by omega) nd ht;rcases loop (wJ 0 T.length) t .un ht with ⟨ρ,e1,e2⟩|⟨d,s',e1,e2⟩
 ·rw[ll]at e2;rw[e2];exact r1 ρ e1
 ·rw[ll]at e2;exact r2 d _ s' e2 e1
include hl hn in
theorem Gs(nd:(T.map Tk.m).Nodup)(hs:∀t∈T,sOk t.s=true):qV [LD T]=some (T.all (stB T)&&T.all (rc T T.length)):=by
 cases h:T.all (stB T)with
 |false=>exact PU (by omega) hn hs h
 |true=>exact PV (by omega) hn hs nd h (rc T T.length) λt ht=>Jp hl hn nd h ht
def hA(u t:Tk):Bool:=(tw t).all λx=>decide (x∈tw u)
theorem P1(hu:u.w=.tup ((tw u).map D.str))(ht:t.w=.tup ((tw t).map D.str))(lt:(tw t).length<=4):tp [u.w,t.w]=some (.bl (hA u t)):=by rw[hu,ht];let ρ:List Sl:=[.im (.tup ((tw u).map D.str)),.im (.tup ((tw t).map D.str))];refine pX (ρ:=ρ) rfl (qf ?_);exact qJ D.str (λx=>decide (x∈tw u)) (tw t) (ρ1:=ρ) rfl (by omega) λx _=>⟨[.im (.str x),.im (.tup ((tw u).map D.str))],[.im (.str x),.im (.tup ((tw u).map D.str))],rfl,oV (x:=.str x) (y:=.tup ((tw u).map D.str)) rfl rfl (xP false x (tw u)),rfl⟩
def wNd(t:Tk):Bool:=decide (tw t).Nodup
include hl hn in
theorem Jq(hw:∀t∈T,t.w=.tup ((tw t).map D.str)/\(tw t).length<=4/\pV [t.w]=some (.bl (wNd t))):pP [LD T]=some (T.all wNd&&(plN T).all (taB hA (plN T))):=by
 obtain⟨h1,h2⟩:=PX (T:=T) (by omega) wNd λt ht=>(hw t ht).2.2;cases h:T.all wNd with
 |false=>exact h1 h
 |true=>exact h2 h hn hA λt ht u hu=>P1 (hw u (bu.mp hu).1).1 (hw t (bu.mp ht).1).1 (hw t (bu.mp ht).1).2.1
end
structure Dn(S:List Th)(M:List Mk)(dk:List Str)(W:List Wy)(V:List Vk):Prop where
 t:∀t∈S,TOk t
 tl:S.length<=7
 m:∀m∈M,MOk m
 ml:M.length<=3
 dl:dk.length<=3
 w:∀w∈W,w.w∈wwL
 wl:W.length<=3
 v:∀v∈V,VOk v
 vl:V.length<=3
abbrev TT(S:List Th):List Tk:=S.map Th.tk
def mkN(T:List Tk)(M:List Mk):List Str:=(T.filter λt=>t.k.mk).map Tk.m++M.map Mk.n
def wyB(T:List Tk)(M:List Mk)(w:Wy):Bool:=wB (.str w.r) (.str w.w) (.str w.g) (oS w.m) (rmN T) (mkN T M)
def vbB(v:Vk):Bool:=(nmB v.n&&v.o.all nmB)&&(decide (v.f="two")==v.j.isSome)
theorem P2:(vnL.all λn=>((([]:List Str)::voL.map λx=>[x]).all λo=>fms.all λf=>jL.all λj=>match rF [vkD ⟨n,o,f,j⟩]with|some (.bl c)=>c==vbB ⟨n,o,f,j⟩|_=>false))=true:=by kernel_rfl
theorem Ay{v:Vk}(h:VOk v):rF [vkD v]=some (.bl (vbB v)):=by
 obtain⟨n,o,f,j⟩:=v;have ho:o∈([]:List Str)::voL.map λx=>[x]:=by
  have l:=h.ol
  match o,l,h.o with
  |[],_,_=>exact aG
  |[x],_,hx=>exact aH _ (aI.mpr ⟨x,hx x aG,rfl⟩)
 have q:=aD.mp (aD.mp (aD.mp (aD.mp P2 n h.n) o ho) f h.f) j h.j;split at q
 ·rename_i c e;rw[beq_iff_eq]at q;rw[q]at e;exact e
 ·cases q
theorem P3:((fw.all λa=>isT (pV [.tup [.str a]]))&&(fw.all λa=>fw.all λb=>match pV [.tup [.str a,.str (sW b)]]with|some (.bl c)=>c==decide [a,sW b].Nodup|_=>false))=true:=by kernel_rfl
theorem RO(t:Th):tw t.tk=t.w:=by show (t.w.map D.str).map nS=t.w;rw[bx];exact gV _
theorem Jr{t:Th}(h:TOk t):t.tk.w=.tup ((tw t.tk).map D.str)/\(tw t.tk).length<=4/\pV [t.tk.w]=some (.bl (wNd t.tk)):=by
 unfold wNd;rw[RO];refine⟨rfl,?_⟩;have q:=P3;rw[aE]at q;show t.w.length<=4/\pV [.tup (t.w.map D.str)]=_;rcases h.w with ⟨a,ha,e⟩|⟨a,ha,b,hb,e⟩
 ·rw[e];refine⟨by simp,?_⟩;rw[aO (by simp)];exact PR (aD.mp q.1 a ha)
 ·rw[e];refine⟨by simp,?_⟩;have z:=aD.mp (aD.mp q.2 a ha) b hb;split at z
  ·rename_i c e2;rw[beq_iff_eq]at z;rw[z]at e2;exact e2
  ·cases z
theorem P4:((nmL++mnL).all λx=>isB (sg [.str x]))=true:=by kernel_rfl
theorem P5:(wwL.all λx=>isB (p8 [.str x]))=true:=by kernel_rfl
theorem Js(o:Option Str):sOk (oS o)=true:=by cases o<;>rfl
def PB(T:List Tk)(M:List Mk)(dk:List Str)(W:List Wy)(V:List Vk):Bool:=kB T&&(M.all mOk&&(((aN T M).all nmB&&decide (aN T M).Nodup)&&((T.all (stB T)&&T.all (rc T T.length))&&((T.all wNd&&(plN T).all (taB hA (plN T)))&&((dk.all (λx=>decide (x∈rmN T))&&decide dk.Nodup)&&((W.all (wyB T M)&&decide (W.map pk2).Nodup)&&(V.all vbB&&Jk ((plN T).flatMap tw) ((V++k9).flatMap Vk.ws) (jsN (V++k9)++W.map Wy.w))))))))
section
variable{S:List Th}{M:List Mk}{dk:List Str}{W:List Wy}{V:List Vk}(d:Dn S M dk W V)
include d
theorem Dn.hl:(TT S).length<=7:=by rw[ag];exact d.tl
theorem Dn.hn:∀t∈TT S,t.n=.str t.m:=λt ht=>by obtain⟨u,_,rfl⟩:=aI.mp ht;rfl
theorem Dn.hs:∀t∈TT S,sOk t.s=true:=λt ht=>by obtain⟨u,_,rfl⟩:=aI.mp ht;exact Js u.s
theorem Dn.hw:∀t∈TT S,t.w=.tup ((tw t).map D.str)/\(tw t).length<=4/\pV [t.w]=some (.bl (wNd t)):=λt ht=>by obtain⟨u,hu,rfl⟩:=aI.mp ht;exact Jr (d.t u hu)
theorem Dn.ht:∀x∈aN (TT S) M,x∈nmL++mnL:=λx hx=>by
 rcases aV.mp hx with hx|hx
 ·obtain⟨t,ht,rfl⟩:=aI.mp hx;obtain⟨u,hu,rfl⟩:=aI.mp ht;exact bI _ (d.t u hu).n
 ·obtain⟨m,hm,rfl⟩:=aI.mp hx;exact bh _ (d.m m hm).n
theorem Dn.mks:sV [LD (TT S),MD M]=some ((mkN (TT S) M).map D.str):=by
 have lt:=d.hl;have lm:=d.ml;let ρ:List Sl:=[.im (LD (TT S)),.im (MD M)];have h:=dP (λt:Tk=>t.k.mk) (TT S);refine(BU (ρ:=ρ) rfl (wx (qP (pL (qI tkD Tk.n (λt=>t.k.mk) (TT S) (ρ1:=ρ) rfl (by omega) λt _=>⟨[.im (tkD t)],[.im (tkD t)],rfl,pQ (wF (xs:=[t.n,t.w,.str t.k.s,t.s]) (ys:=[]) rfl rfl rfl rfl (E7 t)),λ_=>⟨_,pb rfl (rD t),rfl⟩,λ_=>rfl⟩))
  (pL (uc mkD (λm=>D.str m.n) M rfl (by omega) λt _=>⟨_,_,rfl,pb rfl (zk t),rfl⟩)) (by rw[ag,ag];omega)))).trans ?_
 unfold mkN;rw[bj,zl _ d.hn,bx,bx];rfl
theorem Dn.ways:rV [WD W,.lst ((rmN (TT S)).map D.str),.lst ((mkN (TT S) M).map D.str)]=some (W.all (wyB (TT S) M)&&decide (W.map pk2).Nodup):=by
 have lw:=d.wl;have hb:∀w∈W,isB (p8 [.str w.w])=true:=λw hw=>aD.mp P5 w.w (d.w w hw);have ew:∀w∈W,rS [wyD w,.lst ((rmN (TT S)).map D.str),.lst ((mkN (TT S) M).map D.str)]=some (.bl (wyB (TT S) M w)):=λw hw=>Bl rfl (hb w hw) rfl (Js w.m);cases h:W.all (wyB (TT S) M)with
 |true=>exact LG (by omega) λw hw=>⟨aD.mp h w hw,hb w hw⟩
 |false=>
  refine LF (ws:=W.map wyD) (by rw[ag];omega) (λq=>isT (rS [q,.lst ((rmN (TT S)).map D.str),.lst ((mkN (TT S) M).map D.str)])) (λq hq=>?_) ?_
  ·obtain⟨w,hw,rfl⟩:=aI.mp hq;rw[ew w hw];rfl
  ·rw[fP,<- h];exact wo λw hw=>by show isT (rS _)=_;rw[ew w hw];rfl
theorem Dn.parts:ur [LD (TT S),MD M,.lst (dk.map D.str),WD W,.lst (V.map vkD),.lst v9]=some (PB (TT S) M dk W V):=by
 have hl:=d.hl;have lv:=d.vl;have ld:=d.dl;let ρ0:List Sl:=stE 7 [LD (TT S),MD M,.lst (dk.map D.str),WD W,.lst (V.map vkD),.lst v9];let ρ:List Sl:=[.im (LD (TT S)),.im (MD M),.im (.lst (dk.map D.str)),.im (WD W),.im (.lst (V.map vkD)),.im (.lst v9),.im (.lst ((rmN (TT S)).map D.str))];refine LI rfl ?_;unfold uq;refine RB.seq (ρ1:=ρ0) (Ca (ds:=[LD (TT S)]) rfl (Gr hl)) λ_=>?_;refine RB.seq (ρ1:=ρ0) (Ca (ds:=[MD M]) rfl (Jn d.ml d.m)) λ_=>?_;refine RB.seq (ρ1:=ρ0) (Ca (ds:=[LD (TT S),MD M]) rfl (Jo hl d.hn d.ml λx hx=>aD.mp P4 x (d.ht x hx))) λhb=>?_;have nd:((TT S).map Tk.m).Nodup:=by rw[aE]at hb;exact(bR.mp (bC hb.2)).1
 refine RB.seq (ρ1:=ρ0) (Ca (ds:=[LD (TT S)]) rfl (Gs hl d.hn nd d.hs)) λ_=>?_;refine RB.seq (ρ1:=ρ0) (Ca (ds:=[LD (TT S)]) rfl (Jq hl d.hn d.hw)) λ_=>?_;refine RB.nx (ρ1:=ρ) (q8 ((ph (pL (Ar (T:=TT S) (by omega) d.hn rfl))).trans rfl)) ?_;have ed:qY [.lst (dk.map D.str),.lst ((rmN (TT S)).map D.str)]=some (dk.all (λx=>decide (x∈rmN (TT S)))&&decide dk.Nodup):=by
  obtain⟨h1,h2⟩:=LC (ds:=dk.map D.str) (R:=rmN (TT S)) (by rw[ag];omega) λq hq=>by obtain⟨x,_,rfl⟩:=aI.mp hq;rfl
  rw[fP]at h1 h2;cases h:dk.all λx=>decide (x∈rmN (TT S))with
  |false=>exact h1 h
  |true=>exact h2 h dk rfl
 refine RB.seq (ρ1:=ρ) (Ca (ds:=[.lst (dk.map D.str),.lst ((rmN (TT S)).map D.str)]) rfl ed) λ_=>?_;refine RB.seq (ρ1:=ρ) (Ca (ds:=[WD W,.lst ((rmN (TT S)).map D.str),.lst ((mkN (TT S) M).map D.str)]) (oR rfl (oR rfl (oR (pL (oX (g:=sV) (ds:=[LD (TT S),MD M]) rfl d.mks)) rfl))) d.ways) λ_=>?_;have ev:sr [.lst (V.map vkD)]=some (V.all vbB):=by
  refine(RN (vs:=V.map vkD) (λq=>isT (rF [q])) (λq hq=>?_) (by rw[ag];omega)).trans (aX some ?_)
  ·obtain⟨v,hv,rfl⟩:=aI.mp hq;rw[Ay (d.v v hv)];rfl
  ·rw[fP];exact wo λv hv=>by show isT (rF _)=_;rw[Ay (d.v v hv)];rfl
 refine RB.seq (ρ1:=ρ) (Ca (ds:=[.lst (V.map vkD)]) rfl ev) λ_=>?_;refine⟨ρ,Ca (ds:=[LD (TT S),WD W,.lst ((V++k9).map vkD)]) (oR rfl (oR rfl (oR ((pL (qP (xs:=V.map vkD) (ys:=v9) (ρ1:=ρ) (ρ2:=ρ) rfl rfl (by rw[ag];show _+9<=1000;omega))).trans (by rw[Mq,<- bj])) rfl))) (Jl (by omega) (λt ht=>⟨(d.hw t (bu.mp ht).1).1,(d.hw t (bu.mp ht).1).2.1⟩) (by have:=d.wl;omega) (by rw[au];show _+9<=40;omega) λv hv=>?_)⟩;rcases aV.mp hv with hv|hv
 ·have:=(d.v v hv).ol;omega
 ·exact bC (aD.mp (show (k9.all λv=>decide (v.o.length<=2))=true by rfl) v hv)
end
theorem AA{d:L4.D}(hd:noC 15 14 d=true):∀ds:List L4.D,sf 15 14 ds=true->sf 15 14 (ds++[d])=true
 |[],_=>by rw[bM];unfold sf;rw[hd];rfl
 |x::ds,h=>by rw[List.cons_append];unfold sf at h ⊢;rw[aE]at h ⊢;exact⟨h.1,AA hd ds h.2⟩
theorem yd:∀ds:List L4.D,(∀d∈ds,noC 15 14 d=true)->sf 15 14 ds=true
 |[],_=>by unfold sf;rfl
 |x::ds,h=>by unfold sf;rw[aE];exact⟨h x aG,yd ds λd hd=>h d (aH _ hd)⟩
theorem Jt{d:L4.D}{k:Key}{P Q:List L4.D->Prop}(h1:∀ds,P ds->Q ds)(h2:∀ds,P ds->Q (ds++[d])):∀(ks:List Key) (dss:List (List L4.D)),(∀ds∈dss,P ds)->∀x∈eN (λk' ds=>if k'=k then ds++[d]else ds) ks dss,Q x
 |[],_,_,x,hx=>by cases hx
 |_::_,[],_,x,hx=>by cases hx
 |k0::ks,ds::dss,h,x,hx=>by
  rw[gf]at hx;rcases aP.mp hx with rfl|hx
  ·have:=h ds aG;split
   ·exact h2 _ this
   ·exact h1 _ this
  ·exact Jt h1 h2 ks dss (λds hd=>h ds (aH _ hd)) x hx
def gK(d:L4.D):Bool:=(match oH tH "verb" d with
 |some x=>(wK x).isSome
 |none=>false)&&noC 15 14 d
theorem Ju:∀(L:List L4.D) (ks:List Key) (dss:List (List L4.D)),(∀d∈L,gK d=true)->ks.length=dss.length->ks.length+L.length<1000->(∀ds∈dss,ds.length+L.length<1000/\sf 15 14 ds=true)->
  ∃ks' dss',ve (oH tH "verb") L ks dss=some (ks',dss')/\∀ds∈dss',sf 15 14 ds=true
 |[],ks,dss,_,_,_,h=>⟨ks,dss,rfl,λds hd=>(h ds hd).2⟩
 |d::L,ks,dss,hg,hl,hk,h=>by
  rw[aA]at hk;have hL:∀ds∈dss,ds.length+L.length+1<1000/\sf 15 14 ds=true:=λds hd=>⟨by have:=(h ds hd).1;rw[aA]at this;omega,(h ds hd).2⟩;have gd:=hg d aG;unfold gK at gd;rw[aE]at gd;obtain⟨gd,nd⟩:=gd;obtain⟨x,k,e1,e2⟩:∃x k,oH tH "verb" d=some x/\wK x=some k:=by
   split at gd
   ·rename_i x e;exact⟨x,_,e,(Option.some_get gd).symm⟩
   ·cases gd
  have st:(vU ks dss k d).1.length=(vU ks dss k d).2.length/\(vU ks dss k d).1.length+L.length<1000/\∀ds∈(vU ks dss k d).2,ds.length+L.length<1000/\sf 15 14 ds=true:=by
   unfold vU;by_cases c:zb ks k=true
   ·rw[ah c];exact⟨by simp only[iz];omega,by simp only;omega,Jt (P:=λds=>ds.length+L.length+1<1000/\sf 15 14 ds=true) (λds h=>⟨by omega,h.2⟩) (λds h=>⟨by rw[au,bf];omega,AA nd ds h.2⟩) ks dss hL⟩
   ·rw[ai c];refine⟨by simp[hl],by simp only[au,bf];omega,λds hd=>?_⟩;rcases aV.mp hd with hd|hd
    ·exact⟨by have:=(hL ds hd).1;omega,(hL ds hd).2⟩
    ·rw[bb.mp hd];exact⟨by simp only[bf];omega,AA nd [] (by unfold sf;rfl)⟩
  obtain⟨s1,s2,s3⟩:=st;obtain⟨ks',dss',q1,q3⟩:=Ju L (vU ks dss k d).1 (vU ks dss k d).2 (λx hx=>hg x (aH _ hx)) s1 s2 s3;refine⟨ks',dss',?_,q3⟩;unfold ve;simp only[e1,e2];rw[ah]
  ·exact q1
  ·rw[aE];exact⟨aO (by omega),aD.mpr λds hd=>aO (by have:=(hL ds hd).1;omega)⟩
def atO(a b:Str):L4.D:=.obj 3 ["term", "place"] [.str a,.str b]
def mkO(a:Str)(v:Int):L4.D:=.obj 6 ["term", "value"] [.str a,.int v]
def woO(a:Str):L4.D:=.obj 8 ["word"] [.str a]
def noO(d:L4.D):L4.D:=.obj 9 ["inner"] [d]
def mvO(a b:Str):L4.D:=.obj 11 ["term", "place"] [.str a,.str b]
def ruN:List Str:=["verb", "tests", "deeds", "text", "refuses"]
def ruO(v:Str)(ts ds:List L4.D)(tx:Str)(rf:Bool):L4.D:=.obj 13 ruN [.str v,.lst ts,.lst ds,.str tx,.bl rf]
def wtL(y:Str)(w:Wy):List L4.D:=[atO y w.r,woO w.w]++match w.m with|none=>[]|some m=>[noO (mkO m 0)]
def goO(y:Str)(w:Wy):L4.D:=ruO "go" (wtL y w) [mvO y w.g] "You go." false
def A21(y:Str):List L4.D:=(vm [.str y]).getD []++(v8 []).getD []++(wa []).getD []++(uu []).getD []
def SH(y:Str)(W:List Wy):List L4.D:=(A21 y)++(W.map (goO y)++[ruO "go" [] [] "No way there." true])++[ruO "wait" [] [] "Time goes by." false]
theorem RP(y:Str)(w:Wy):wb [.str y,wyD w]=some (wtL y w):=by obtain⟨r,x,g,m⟩:=w;cases m<;>kernel_rfl
theorem LJ(y:Str)(w:Wy):tR [.str "go", .lst (wtL y w),.lst [mvO y w.g],.str "You go."]=some (goO y w):=by kernel_rfl
theorem RQ(y:Str)(W:List Wy)(hl:W.length<=8):xj [.str y,.lst (W.map wyD)]=some (W.map (goO y)++[ruO "go" [] [] "No way there." true]):=by
 let ρ:List Sl:=[.im (.str y),.im (.lst (W.map wyD)),.un];let σ:List Sl:=[.im (.str y),.im (.lst (W.map wyD)),.im (.lst (W.map (goO y)))];refine BU (ρ:=σ) rfl ?_;unfold xi;refine(oG (ρ':=σ) ((ph (pL (uc wyD (goO y) W (ρ1:=ρ) rfl (by omega) λw _=>⟨[.im (wyD w),.im (.str y)],[.im (wyD w),.im (.str y)],rfl,?_,rfl⟩))).trans rfl)).trans ?_
 ·exact oX (ds:=[.str "go", .lst (wtL y w),.lst [mvO y w.g],.str "You go."]) (oR rfl (oR (pL (oX (ds:=[.str y,wyD w]) rfl (RP y w))) (oR rfl (oR rfl rfl)))) (LJ y w)
 ·exact wx (qP (xs:=W.map (goO y)) (ys:=[ruO "go" [] [] "No way there." true]) (ρ1:=σ) rfl (by kernel_rfl) (by rw[ag];show W.length+1<=1000;omega))
theorem Fd(y:Str):(A21 y).length<=50:=aL (by kernel_rfl)
theorem P6(y:Str){W:List Wy}(hl:W.length<=8):(SH y W).length<=100:=by have:=Fd y;unfold SH;rw[au,au,au,ag];show (A21 y).length+(W.length+1)+1<=100;omega
theorem Gu(y:Str)(W:List Wy)(hl:W.length<=8):tS [.str y,.lst (W.map wyD)]=some (SH y W):=by
 have:=Fd y;let ρ:List Sl:=[.im (.str y),.im (.lst (W.map wyD))];refine BU (ρ:=ρ) rfl (wx (qP (xs:=(A21 y)++(W.map (goO y)++[ruO "go" [] [] "No way there." true])) (ys:=[ruO "wait" [] [] "Time goes by." false]) (ρ1:=ρ) (pL (qP (xs:=(A21 y)) (ρ1:=ρ) (by kernel_rfl) (pL (oX (ds:=[.str y,.lst (W.map wyD)]) rfl (RQ y W hl))) ?_)) (by kernel_rfl) ?_))
 ·rw[au,ag];show (A21 y).length+(W.length+1)<=1000;omega
 ·rw[au,au,ag];show (A21 y).length+(W.length+1)+1<=1000;omega
theorem RR(y:Str)(W:List Wy):∀d∈SH y W,gK d=true:=λd hd=>by
 unfold SH at hd;rcases aV.mp hd with hd|hd
 ·rcases aV.mp hd with hd|hd
  ·exact aD.mp (show (A21 y).all gK=true by kernel_rfl) d hd
  ·rcases aV.mp hd with hd|hd
   ·obtain⟨w,_,rfl⟩:=aI.mp hd;obtain⟨r,x,g,m⟩:=w;cases m<;>kernel_rfl
   ·rw[bb.mp hd];kernel_rfl
 ·rw[bb.mp hd];kernel_rfl
theorem P7{d:L4.D}(h:gK d=true):noC 15 14 d=true:=by unfold gK at h;rw[aE]at h;exact h.2
theorem Ed(hl:T.length<=900)(hn:∀t∈T,t.n=.str t.m)(nd:(T.map Tk.m).Nodup):yA [LD T]=some (.dic (nK T) (T.map tkD)):=by
 obtain⟨s',e1⟩:=tu (g:=gN 2) (i:=1) (fk:=c1 (oH oQ "name") (cV 2)) (fv:=cV 2) tkD Tk.m tkD (λks ds s=>[.im (LD T),.dk ks ds,s]) T
  (λt ht ks ds s=>⟨[.im (LD T),.dk ks ds,.im (tkD t)],rfl,rfl,rfl,pb rfl ((rD t).trans (by rw[hn t ht])),λks' ds'=>⟨_,rfl⟩⟩) T [] [] .un (λ_ h=>h) (by rw[bM];exact Bi nd) (by simp;omega) rfl
 refine pX (ρ:=[.im (LD T),.im (.dic (nK T) (T.map tkD)),s']) rfl ?_;unfold yz;refine(oG (ρ':=[.im (LD T),.dk [] [],.un]) rfl).trans ?_;refine(oG ((pW rfl).trans e1)).trans ?_;rw[bM,bM];rfl
theorem yF{a b e:Sl}:∀(l:List Tk) (ks:List Key) (ds:List L4.D) (s:Sl),(∀t∈l,t.n=.str t.m)->(ks++l.map λt=>kS t.m).Nodup->ks.length+l.length<=900->ds.length=ks.length->
  ∃(ks':List Key) (ds':List L4.D) (s':Sl),(∀k∈ks',k∈ks++l.map λt=>kS t.m)/\ks'.Nodup/\ks'.length<=ks.length+l.length/\ds'.length=ks'.length/\forL (gN 3) (sIf (cT (rE qq "has_mark" (cV 3) pC)) (rQ 2 (c1 (oH oQ "name") (cV 3)) (cC (.int 1))) pf) (l.map tkD) [a,b,.dk ks ds,s,e]=some (.nx [a,b,.dk ks' ds',s',e])
 |[],ks,ds,s,_,nd,_,he=>⟨ks,ds,s,λk h=>bI _ h,(bR.mp nd).1,aC _,he,rfl⟩
 |t::l,ks,ds,s,hn,nd,hl,he=>by
  rw[aA]at hl;let ρ:List Sl:=[a,b,.dk ks ds,.im (tkD t),e];have em:cT (rE qq "has_mark" (cV 3) pC) ρ=some (t.k.mk,ρ):=pQ (wF (xs:=[t.n,t.w,.str t.k.s,t.s]) (ys:=[]) rfl rfl rfl rfl (E7 t));have hn':∀u∈l,u.n=.str u.m:=λu hu=>hn u (aH _ hu);rw[aF]at nd;have nd1:((ks++[kS t.m])++l.map λt=>kS t.m).Nodup:=by rw[bJ];exact nd
  have nd2:(ks++l.map λt=>kS t.m).Nodup:=nd.sublist ((oA _).append (List.sublist_cons_self _ _));rw[aF,aF];unfold forL;rw[show gN 3 (tkD t) [a,b,.dk ks ds,s,e]=some ρ from rfl];cases hm:t.k.mk with
  |true=>
   rw[hm]at em;have hk:kS t.m∉ks:=λz=>by rw[bR]at nd;exact nd.2.2 _ z _ aG rfl
   obtain⟨ks',ds',s',h1,h0,h2,h3,q⟩:=yF (a:=a) (b:=b) (e:=e) l (ks++[kS t.m]) (ds++[.int 1]) (.im (tkD t)) hn' nd1 (by rw[au,bf];omega) (by simp[he]);rw[au,bf]at h2;refine⟨ks',ds',s',λk h=>?_,h0,by rw[aA];omega,h3,?_⟩
   ·have:=h1 k h;rw[bJ]at this;exact this
   simp only[(p6 em).trans (Dk (i:=2) (fk:=c1 (oH oQ "name") (cV 3)) (fv:=cC (.int 1)) (ρ:=ρ) (x:=t.m) rfl rfl (pb rfl ((rD t).trans (by rw[hn t aG]))) hk (by omega) he)];exact q
  |false=>
   rw[hm]at em;obtain⟨ks',ds',s',h1,h0,h2,h3,q⟩:=yF (a:=a) (b:=b) (e:=e) l ks ds (.im (tkD t)) hn' nd2 (by omega) he;refine⟨ks',ds',s',λk h=>?_,h0,by rw[aA];omega,h3,?_⟩
   ·rcases aV.mp (h1 k h)with z|z
    ·exact bI _ z
    ·exact bh _ (aH _ z)
   simp only[p7 em,pf];exact q
variable{ns:List Str}{r:List Sl}
theorem Fe{d:L4.D}{r':List Sl}(h1:e (.im (.obj 14 ns ds)::r.map ug)=some (d,r'))(h2:noC 15 14 d=true):wU 15 e (.ob 14 ns ds::r)=some (d,.ob 14 ns ds::r):=by unfold wU;simp only[h1,h2];rfl
theorem Bm{nm:Str}{d:L4.D}(h1:e (.ob 14 ns ds::r)=some (d,.ob 14 ns ds::r))(h2:ns.contains nm=false)(h3:ds.length=ns.length)(h4:ns.length<900):pG 14 0 nm e (.ob 14 ns ds::r)=some (.nx (.ob 14 (ns++[nm]) (ds++[d])::r)):=by unfold pG;rw[h1];simp only[jQ,h2,h3,h4,if_true,fz,if_false];rfl
theorem LK(m:Mk):oH rg "most" (mkD m)=some (.int m.mo):=rfl
def wNs:List Str:=["kept_things", "kept_marks", "kept_dark", "kept_ways", "kept_verbs", "shared_verbs", "your_name", "things_by_name", "mosts_by_name", "verbs_by_word", "kept_rules", "shared_rules", "copied_rules", "rules_by_verb"]
theorem Dm:∀l:List Str,sf 15 14 (l.map D.str)=true
 |[]=>by rw[eM];unfold sf;rfl
 |x::l=>by rw[aF];unfold sf;rw[Dm l];rfl
theorem P8(v:Vk):noC 15 14 (vkD v)=true:=by
 have e:noC 15 14 (vkD v)=(sf 15 14 (v.o.map D.str)&&(noC 15 14 (oS v.j)&&true)):=by kernel_rfl
 rw[e,Dm];cases v.j<;>rfl
theorem Fg{a:Sl}:∀(V:List Vk) (ks:List Key) (ds:List L4.D) (s t:Sl),(∀v∈V,v.o.length<=2)->(ks++V.flatMap λv=>v.ws.map kS).Nodup->ks.length+3 * V.length<=900->ds.length=ks.length->
  ∃s' t',forL (gN 2) (q9 (iT (vR (sU (a1 (c1 (oH oQ "name") (cV 2)))) (c1 (oH pR "others") (cV 2)))) (gN 3) (rQ 1 (cV 3) (cV 2))) (V.map vkD) [a,.dk ks ds,s,t]=some (.nx [a,.dk (ks++V.flatMap λv=>v.ws.map kS) (ds++V.flatMap λv=>v.ws.map λ_=>vkD v),s',t'])
 |[],ks,ds,s,t,_,_,_,_=>⟨s,t,by simp only[lr,bH];rfl⟩
 |v::V,ks,ds,s,t,ho,nd,hl,he=>by
  rw[aA]at hl;rw[dA,<- bJ]at nd;have hv:=ho v aG;have lw:v.ws.length<=3:=by unfold Vk.ws;rw[aA];omega
  have nd1:(ks++v.ws.map λx=>kS (id x)).Nodup:=(bR.mp nd).1;obtain⟨t1,e1⟩:=tu (g:=gN 3) (i:=1) (fk:=cV 3) (fv:=cV 2) D.str id (λ_=>vkD v) (λks ds s=>[a,.dk ks ds,.im (vkD v),s]) v.ws
   (λx _ ks ds s=>⟨[a,.dk ks ds,.im (vkD v),.im (.str x)],rfl,rfl,rfl,rfl,λks' ds'=>⟨_,rfl⟩⟩) v.ws ks ds t (λ_ h=>h) nd1 (by omega) he
  obtain⟨s2,t2,e2⟩:=Fg (a:=a) V (ks++v.ws.map kS) (ds++v.ws.map λ_=>vkD v) (.im (vkD v)) t1 (λu hu=>ho u (aH _ hu)) nd (by rw[au,ag];omega) (by rw[au,au,he,ag,ag]);refine⟨s2,t2,?_⟩;rw[aF];unfold forL;rw[show gN 2 (vkD v) [a,.dk ks ds,s,t]=some [a,.dk ks ds,.im (vkD v),t] from rfl];have e0:iT (vR (sU (a1 (c1 (oH oQ "name") (cV 2)))) (c1 (oH pR "others") (cV 2))) [a,.dk ks ds,.im (vkD v),t]=some (v.ws.map D.str,[a,.dk ks ds,.im (vkD v),t]):=by
   have q:vR (sU (a1 (c1 (oH oQ "name") (cV 2)))) (c1 (oH pR "others") (cV 2)) [a,.dk ks ds,.im (vkD v),t]=some (.tup (v.ws.map D.str),[a,.dk ks ds,.im (vkD v),t]):=by show (if ([]:List L4.D).length+(v.o.map D.str).length<=900 then some (D.tup (.str v.n::[]++v.o.map D.str),[a,.dk ks ds,.im (vkD v),t])else none)=_;rw[ah (by rw[ag];simp only[bg];omega)];rfl
   unfold iT;rw[q]
  simp only[(pW e0).trans e1];rw[dA,dA,<- bJ,<- bJ];exact e2
theorem RS(V:List Vk)(hl:V.length<=100)(ho:∀v∈V,v.o.length<=2)(nd:(V.flatMap Vk.ws).Nodup):∃c,sP [.lst (V.map vkD)]=some c/\noC 15 14 c=true:=by
 have nk:(V.flatMap λv=>v.ws.map kS).Nodup:=by
  have e:(V.flatMap λv=>v.ws.map kS)=(V.flatMap Vk.ws).map kS:=by rw[List.map_flatMap]
  rw[e];exact nd.map kS (λa b hne z=>hne (B7 z))
 obtain⟨s,t,e⟩:=Fg (a:=.im (.lst (V.map vkD))) V [] [] .un .un ho (by rw[bM];exact nk) (by simp;omega) rfl;rw[bM,bM]at e;let c:L4.D:=.dic (V.flatMap λv=>v.ws.map kS) (V.flatMap λv=>v.ws.map λ_=>vkD v);refine⟨c,pX (ρ:=[.im (.lst (V.map vkD)),.im c,s,t]) rfl ?_,?_⟩
 ·unfold sO;exact(oG (ρ':=[.im (.lst (V.map vkD)),.dk [] [],.un,.un]) rfl).trans ((oG ((pW rfl).trans e)).trans rfl)
 ·show sf 15 14 (V.flatMap λv=>v.ws.map λ_=>vkD v)=true;refine yd _ λd hd=>?_;obtain⟨v,_,hd⟩:=fH.mp hd;obtain⟨x,_,rfl⟩:=aI.mp hd;exact P8 v
theorem Ee{L:List L4.D}{dss:List (List L4.D)}(g1:ve (oH tH "verb") L [] []=some (ks,dss)):yB [.lst L]=some (.dic ks (dss.map .lst)):=by
 refine pX (ρ:=[.im (.lst L),.un,.un]) rfl ?_;show (match ve (oH tH "verb") L [] []with
  |some (ks,dss)=>some (Out.rt (.dic ks (dss.map .lst)) [.im (.lst L),.un,.un])
  |none=>none)=_
 rw[g1]
def wA(T:List Tk)(M:List Mk)(dk:List Str)(W:List Wy)(V:List Vk)(y:Str)(L:List L4.D)(d8 d9 d10 c:L4.D):List L4.D:=[LD T,MD M,.lst (dk.map D.str),WD W,.lst (V.map vkD),.lst v9,.str y,d8,d9,d10,.lst [],.lst L,.lst [],c]
def wS(T:List Tk)(M:List Mk)(dk:List Str)(W:List Wy)(V:List Vk)(y:Str)(L:List L4.D)(d8 d9 d10 c:L4.D)(q:Sl)(k:Nat):List Sl:=[.ob 14 (wNs.take k) ((wA T M dk W V y L d8 d9 d10 c).take k),.im (LD T),.im (MD M),.im (.lst (dk.map D.str)),.im (WD W),.im (.lst (V.map vkD)),.im (.lst []),q]
section
variable{S:List Th}{M:List Mk}{dk:List Str}{W:List Wy}{V:List Vk}(d:Dn S M dk W V)
include d
theorem Dn.no(h:PB (TT S) M dk W V=false):qA [LD (TT S),MD M,.lst (dk.map D.str),WD W,.lst (V.map vkD),.lst []]=some none:=by
 have p:=d.parts;rw[h]at p;unfold qA fnXI;rw[ah (show [LD (TT S),MD M,.lst (dk.map D.str),WD W,.lst (V.map vkD),.lst []].length=6 from rfl)];have e:qz (stI 14 8 [LD (TT S),MD M,.lst (dk.map D.str),WD W,.lst (V.map vkD),.lst []])=some (.bk (stI 14 8 [LD (TT S),MD M,.lst (dk.map D.str),WD W,.lst (V.map vkD),.lst []])):=by unfold qz;exact y4 (RD (ds:=[LD (TT S),MD M,.lst (dk.map D.str),WD W,.lst (V.map vkD),.lst v9]) (oR rfl (oR rfl (oR rfl (oR rfl (oR rfl (oR (pL (oX (ds:=[]) rfl Mp)) rfl)))))) p)
 rw[e]
variable(h:PB (TT S) M dk W V=true)
include h
theorem Dn.nd:(aN (TT S) M).Nodup:=by unfold PB at h;simp only[aE]at h;exact bC h.2.2.1.2
theorem Dn.un:((V++k9).flatMap Vk.ws).Nodup:=by unfold PB Jk at h;simp only[aE]at h;exact bC h.2.2.2.2.2.2.2.2.1
theorem Dn.mosts:∃c,sN [LD (TT S),MD M]=some c:=by
 have lt:=d.hl;have lm:=d.ml;obtain⟨n1,n2,n3⟩:=bR.mp (d.nd h);obtain⟨ks,ds,s1,h1,h0,h2,h3,e1⟩:=yF (a:=.im (LD (TT S))) (b:=.im (MD M)) (e:=.un) (TT S) [] [] .un d.hn (by rw[bM];exact Bi n1) (by rw[bg];omega) rfl;rw[bg]at h2;have nd:(ks++M.map λm=>kS m.n).Nodup:=by
  refine bR.mpr ⟨h0,?_,λa ha b hb e=>?_⟩
  ·have:((M.map Mk.n).map kS).Nodup:=n2.map kS (λa b hne z=>hne (B7 z));rw[bx]at this;exact this
  ·have:=h1 a ha;rw[bM]at this;obtain⟨t,ht,e1⟩:=aI.mp this;obtain⟨m,hm,e2⟩:=aI.mp hb;exact n3 _ (cM ht) _ (cM hm) (B7 (e1.trans (e.trans e2.symm)))
 obtain⟨s2,e2⟩:=tu (g:=gN 4) (i:=2) (fk:=c1 (oH oQ "name") (cV 4)) (fv:=c1 (oH rg "most") (cV 4)) mkD Mk.n (λm=>.int m.mo) (λks ds s=>[.im (LD (TT S)),.im (MD M),.dk ks ds,s1,s]) M
  (λm _ ks ds s=>⟨[.im (LD (TT S)),.im (MD M),.dk ks ds,s1,.im (mkD m)],rfl,pb rfl (LK m),rfl,rfl,λks' ds'=>⟨_,rfl⟩⟩) M ks ds .un (λ_ h=>h) nd (by omega) h3
 refine⟨.dic (ks++M.map λa=>kS a.n) (ds++M.map λm=>.int m.mo),pX (ρ:=[.im (LD (TT S)),.im (MD M),.im (.dic (ks++M.map λa=>kS a.n) (ds++M.map λm=>.int m.mo)),s1,s2]) rfl ?_⟩;unfold sM;refine(oG (ρ':=[.im (LD (TT S)),.im (MD M),.dk [] [],.un,.un]) rfl).trans ?_;refine(oG ((pW rfl).trans e1)).trans ?_;exact(oG ((pW rfl).trans e2)).trans rfl
theorem Dn.of_you(ns:List Str)(rest:List L4.D):∃y,sQ [.obj 14 ("kept_things" ::ns) (LD (TT S)::rest),.str "you"]=some (.lst [.str y]):=by
 let ρ:List Sl:=[.im (.obj 14 ("kept_things" ::ns) (LD (TT S)::rest)),.im (.str Kd.you.s)];have y:cK .you (TT S)=1:=by unfold PB kB at h;simp only[aE]at h;have:=bC h.1.2;omega
 unfold cK at y;obtain⟨t,et⟩:=jY.mp y;have ht:t∈TT S:=(bu.mp (show t∈(TT S).filter λt=>decide (t.k=.you) by rw[et];exact bb.mpr rfl)).1;refine⟨t.m,(IF (ρ:=ρ) rfl (wx (qI tkD Tk.n (λt=>decide (t.k=.you)) (TT S) (ρ1:=ρ) rfl (by have:=d.hl;omega) λt _=>⟨[.im (tkD t),.im (.str Kd.you.s)],[.im (tkD t),.im (.str Kd.you.s)],rfl,pQ (oV (pb rfl (qB t)) rfl (sT t.k .you)),λ_=>⟨_,pb rfl (rD t),rfl⟩,λ_=>rfl⟩))).trans ?_⟩;rw[et];show some (D.lst [t.n])=_;rw[d.hn t ht]
theorem Dn.world:∃q,qA [LD (TT S),MD M,.lst (dk.map D.str),WD W,.lst (V.map vkD),.lst []]=some (some q):=by
 have hl:=d.hl;have lw:=d.wl;have lv:=d.vl;have p:=d.parts;rw[h]at p;obtain⟨y,ey⟩:=d.of_you h (wNs.tail.take 5) [MD M,.lst (dk.map D.str),WD W,.lst (V.map vkD),.lst v9];have hs:=P6 y (W:=W) (by omega);have hc:=Gu y W (by omega);have gk:=RR y W;generalize SH y W=L at hs hc gk;obtain⟨ks,dss,g1,g3⟩:=Ju L [] [] gk rfl (by simp only[bg];omega) λds h=>(by cases h);let c:L4.D:=.dic ks (dss.map .lst);let B:Sl:=.im (.bl true);have nc:noC 15 14 c=true:=by show sf 15 14 (dss.map .lst)=true;exact yd _ λd hd=>by obtain⟨ds,h,rfl⟩:=aI.mp hd;exact g3 ds h
 obtain⟨d9,e9⟩:=d.mosts h;have e8:=Ed (T:=TT S) (by omega) d.hn (bR.mp (d.nd h)).1;generalize ed8:D.dic (nK (TT S)) ((TT S).map tkD)=d8 at e8;obtain⟨d10,e10,n10⟩:=RS (V++k9) (by rw[au];show _+9<=100;omega) (λv hv=>by
  rcases aV.mp hv with hv|hv
  ·have:=(d.v v hv).ol;omega
  ·exact bC (aD.mp (show (k9.all λv=>decide (v.o.length<=2))=true by rfl) v hv)) (d.un h)
 let A:=wA (TT S) M dk W V y L d8 d9 d10 c;let Z:=wS (TT S) M dk W V y L d8 d9 d10 c;have av:rX [.obj 14 (wNs.take 9) (A.take 9)]=some (.lst ((V++k9).map vkD)):=by refine IF (ρ:=[.im (.obj 14 (wNs.take 9) (A.take 9))]) rfl (wx ((qP (xs:=V.map vkD) (ys:=v9) (ρ1:=[.im (.obj 14 (wNs.take 9) (A.take 9))]) (ρ2:=[.im (.obj 14 (wNs.take 9) (A.take 9))]) rfl rfl (by rw[ag];show V.length+9<=1000;omega)).trans ?_));rw[Mq,<- bj]
 have e:qz (Z .un 0)=some (.nx (Z B 14)):=by unfold qz;refine(oG (ρ':=Z .un 0) (RA (ds:=[LD (TT S),MD M,.lst (dk.map D.str),WD W,.lst (V.map vkD),.lst v9]) (oR rfl (oR rfl (oR rfl (oR rfl (oR rfl (oR (pL (oX (ds:=[]) rfl Mp)) rfl)))))) p)).trans ?_;refine(oG (ρ':=Z .un 1) (by kernel_rfl)).trans ((oG (ρ':=Z .un 2) (by kernel_rfl)).trans ((oG (ρ':=Z .un 3) (by kernel_rfl)).trans ((oG (ρ':=Z .un 4) (by kernel_rfl)).trans ((oG (ρ':=Z .un 5) (by kernel_rfl)).trans ((oG (ρ':=Z .un 6) (by kernel_rfl)).trans ?_)))));refine(oG (ρ':=Z .un 7) (q8 (Bm (ns:=wNs.take 6) (ds:=A.take 6) (r:=(Z .un 6).tail) (Fe (d:=.str y) (r':=(.im (.obj 14 (wNs.take 6) (A.take 6)))::((Z .un 6).tail).map ug) (oV (x:=.lst [.str y]) (wF (xs:=A.take 6) (ys:=[.str "you"]) (hh:=sQ) rfl rfl rfl rfl ey) rfl rfl) rfl) rfl rfl (by decide)))).trans ?_;refine(oG (ρ':=Z .un 8) (q8 (Bm (r:=(Z .un 7).tail) (oX (ds:=[LD (TT S)]) rfl e8) rfl rfl (by decide)))).trans ?_;refine(oG (ρ':=Z .un 9) (q8 (Bm (r:=(Z .un 8).tail) (oX (ds:=[LD (TT S),MD M]) rfl e9) rfl rfl (by decide)))).trans ?_;refine(oG (ρ':=Z .un 10) (q8 (Bm (ns:=wNs.take 9) (ds:=A.take 9) (r:=(Z .un 9).tail) (Fe (r':=(.im (.obj 14 (wNs.take 9) (A.take 9)))::((Z .un 9).tail).map ug) (oX (ds:=[.lst ((V++k9).map vkD)]) (oR (wF (xs:=A.take 9) (ys:=[]) (hh:=rX) rfl rfl rfl rfl av) rfl) e10) n10) rfl rfl (by decide)))).trans ?_;refine(oG (ρ':=Z B 10) (by kernel_rfl)).trans ((oG (ρ':=Z B 10) (by kernel_rfl)).trans ((oG (ρ':=Z B 11) (by kernel_rfl)).trans ?_));refine(oG (ρ':=Z B 12) (q8 (Bm (ns:=wNs.take 11) (ds:=A.take 11) (r:=(Z B 11).tail) (Fe (d:=.lst L) (r':=(.im (.obj 14 (wNs.take 11) (A.take 11)))::((Z B 11).tail).map ug) (pL (oX (ds:=[.str y,WD W]) rfl hc)) (yd _ λd hd=>P7 (gk d hd))) rfl rfl (by decide)))).trans ?_;refine(oG (ρ':=Z B 13) (by kernel_rfl)).trans ?_;refine q8 (Bm (ns:=wNs.take 13) (ds:=A.take 13) (r:=(Z B 13).tail) (Fe (oX (ds:=[.lst L]) (oR (pL (qP (xs:=[]) (ys:=L) rfl rfl (by simp only[bg];omega))) rfl) (r:=c) (Ee g1)) nc) rfl rfl (by decide))
 have e':qz (stI 14 8 [LD (TT S),MD M,.lst (dk.map D.str),WD W,.lst (V.map vkD),.lst []])=some (.nx (Z B 14)):=e;refine⟨(wNs,A),?_⟩;unfold qA fnXI;rw[ah (show [LD (TT S),MD M,.lst (dk.map D.str),WD W,.lst (V.map vkD),.lst []].length=6 from rfl),e'];dsimp only;unfold fnI;rw[ah (show [LD (TT S),MD M,.lst (dk.map D.str),WD W,.lst (V.map vkD),.lst []].length=6 from rfl),e'];rfl
end
section
variable{f f':FE}{c c':FT}{ρ ρ1 ρ2:List Sl}{d x y z:L4.D}{b:Bool}
theorem Sv{r:L4.D×List Sl}(h:f ρ=some r):cAlt f f' ρ=some r:=by unfold cAlt;rw[h]
theorem Sw(h:f ρ=none):cAlt f f' ρ=f' ρ:=by unfold cAlt;rw[h]
theorem LL{r:Bool×List Sl}(h:c ρ=some r):cAltT c c' ρ=some r:=by unfold cAltT;rw[h]
theorem RU(h:c ρ=none):cAltT c c' ρ=c' ρ:=by unfold cAltT;rw[h]
theorem Mr{g:L4.D->L4.D->Option L4.D}(h1:f ρ=some (x,ρ1))(h2:f' ρ1=some (y,ρ2))(h3:g x y=none):cT (c2 g f f') ρ=none:=by unfold cT c2;rw[h1];simp only[h2,h3]
theorem Jv{a b:Bool}(h:e ρ=some (.bl a,ρ))(h':a=true->e' ρ=some (.bl b,ρ)):qu e e' ρ=some (.bl (a&&b),ρ):=by
 cases a with
 |false=>unfold qu;rw[h];rfl
 |true=>exact(qj h).trans (h' rfl)
theorem sy{a b:Bool}(h:c ρ=some (a,ρ))(h':a=false->c' ρ=some (b,ρ)):qK c c' ρ=some (a||b,ρ):=by
 cases a with
 |false=>exact DR h (h' rfl)
 |true=>unfold qK;rw[h];rfl
theorem AB{a b:Bool}(h:c ρ=some (a,ρ))(h':a=true->c' ρ=some (b,ρ)):rb c c' ρ=some (a&&b,ρ):=by
 cases a with
 |true=>unfold rb;rw[h];exact h' rfl
 |false=>unfold rb;rw[h];rfl
end
variable{c:FT}
theorem Ms{e:FS}{h:FS}(q:c ρ=some (false,ρ1)):oK (sIf c e pf) h ρ=h ρ1:=oG ((p7 q).trans rfl)
theorem Fh(ds:List L4.D):dEqN (.lst ds) (.lst [])=some (.bl (decide (ds=[]))):=by
 cases ds with
 |nil=>rfl
 |cons x xs=>rfl
theorem ne_nil{l:List L3.Dq}(h:vd ds=some l)(hd:qr l<=19):dEq true (.lst ds) (.lst [])=some (.bl (!decide (ds=[]))):=by
 cases ds with
 |nil=>rfl
 |cons x xs=>
  rw[aU (List.cons_ne_nil x xs)];obtain⟨y,ys,rfl⟩:∃y ys,l=y::ys:=by
   unfold vd at h;split at h
   ·split at h
    ·cases h;exact⟨_,_,rfl⟩
    ·cases h
   ·cases h
  have e0:CP true (.lst (x::xs)) (.lst [])=none:=rfl;have e1:toD (.lst (x::xs))=some (.lst (y::ys)):=by unfold toD;rw[h]
  have e3:dpt (.lst (y::ys))<=20:=by rw[dpt];omega
  unfold dEq;rw[e0];show HK true _ _=_;unfold HK;rw[e1,show toD (.lst [])=some (.lst []) from rfl];show (if Hg (.lst (y::ys)) (.lst [])&&decide (dpt (.lst (y::ys))<=20)&&decide (dpt (.lst [])<=20)then some (D.bl (!eqD (.lst (y::ys)) (.lst [])))else none)=_;rw[aO e3];rfl
theorem Bn:∀l:List Str,vd (l.map D.str)=some (l.map L3.Dq.str)/\qr (l.map L3.Dq.str)=0
 |[]=>⟨rfl,rfl⟩
 |x::l=>by obtain⟨h1,h2⟩:=Bn l;rw[aF,aF];refine⟨by unfold vd;rw[h1];rfl,by unfold qr;rw[h2];unfold dpt;rfl⟩
theorem Bo{α:Type}:∀l:List α,vd (l.map λ_=>D.int 1)=some (l.map λ_=>L3.Dq.int 1)/\qr (l.map λ_=>L3.Dq.int 1)=0
 |[]=>⟨rfl,rfl⟩
 |x::l=>by obtain⟨h1,h2⟩:=Bo l;rw[aF,aF];refine⟨by unfold vd;rw[h1];rfl,by unfold qr;rw[h2];unfold dpt;rfl⟩
theorem Fi(l:List Str):dEq true (.lst (l.map D.str)) (.lst [])=some (.bl (!l.isEmpty)):=by obtain⟨h1,h2⟩:=Bn l;rw[ne_nil h1 (by omega)];cases l<;>rfl
def twT:FT:=(cAltT (cT (c2 (dIn false) (c2 dIx (cV 1) (cV 0)) (cAlt (cL (xa (cV 1) oNo (oAt (cV 0)))) (vJ (cV 1) oNo (oAt (cV 0)))))) (cT (c2 dInT (c2 dIx (cV 1) (cV 0)) (cAlt (cL (xa (cV 1) oNo (oAt (cV 0)))) (vJ (cV 1) oNo (oAt (cV 0)))))))
theorem nodup_iff{α:Type}[DecidableEq α]:∀l:List α,((aT l.length).all λk=>match l[k]? with|some a=>!decide (a∈l.take k)|none=>true)=decide l.Nodup:=by
 intro l;rw[bS,aD,bc];constructor
 ·intro h;refine fZ.mpr λi j hi hj hij e=>?_;have q:=h j (bN.mpr hj);rw[aQ hj]at q;simp only[bV,decide_eq_false_iff_not]at q;exact q (by rw[<-e,jH];exact⟨i,by omega,rfl⟩)
 ·intro h k hk;have hk:=bN.mp hk;rw[aQ hk];simp only[bV,decide_eq_false_iff_not];intro z;rw[jH]at z;obtain⟨i,hi,e⟩:=z;exact fZ.mp h i k (by omega) hk (by omega) e
theorem AC{α:Type}[DecidableEq α](l:List α){q:L4.D}(hl:l.length<=100)(h1:rG q=some (.int (l.length:Nat)))(h2:∀(k:Nat) (a:α),l[k]?=some a->twT [.im (.int (k:Nat)),.im q]=some (decide (a∈l.take k),[.im (.int (k:Nat)),.im q])):pM [q]=some (.bl (!decide l.Nodup)):=by
 let p:Nat->Bool:=λk=>match l[k]? with|some a=>decide (a∈l.take k)|none=>false
 let ρ:List Sl:=[.im q];have e:oT 1 [0] (iR1 (c1 rG (cV 0))) (gN 0) twT (cC (.int 1)) ρ=some (((aT l.length).filter p).map λ_=>D.int 1,ρ):=
  qI (λk:Nat=>D.int (k:Nat)) (λ_=>D.int 1) p (aT l.length) (Bj (ρ1:=ρ) (pb rfl h1) hl) (by rw[bK];omega) λk hk=>by have hk:=bN.mp hk;have ek:l[k]?=some l[k]:=aQ hk;refine⟨[.im (.int (k:Nat)),.im q],[.im (.int (k:Nat)),.im q],rfl,?_,λ_=>⟨_,rfl,rfl⟩,λ_=>rfl⟩;rw[h2 k l[k] ek];show _=some (p k,_);simp only[p,ek]
 refine pX (ρ:=ρ) rfl (qf ?_);obtain⟨t1,t2⟩:=Bo ((aT l.length).filter p);refine(oV (pL e) rfl (ne_nil t1 (by omega))).trans ?_;congr 4;rw[<-nodup_iff,bS,bc,kq,ip,aD];refine forall_congr' λk=>forall_congr' λhk=>?_;show ¬(match l[k]? with|some a=>decide (a∈l.take k)|none=>false)=true ↔ _;cases l[k]?<;>simp
theorem RV(k:Nat)(h:k<=ds.length):cAlt (cL (xa (cV 1) oNo (oAt (cV 0)))) (vJ (cV 1) oNo (oAt (cV 0))) [.im (.int (k:Nat)),.im (.lst ds)]=some (.lst (ds.take k),[.im (.int (k:Nat)),.im (.lst ds)]):=by refine Sv (pL ?_);show some (cutD ds none (some (k:Int)),_)=_;rw[D9 k h]
theorem Sx(k:Nat)(h:k<=ds.length):cAlt (cL (xa (cV 1) oNo (oAt (cV 0)))) (vJ (cV 1) oNo (oAt (cV 0))) [.im (.int (k:Nat)),.im (.tup ds)]=some (.tup (ds.take k),[.im (.int (k:Nat)),.im (.tup ds)]):=by refine(Sw rfl).trans ?_;show some (D.tup (cutD ds none (some (k:Int))),_)=_;rw[D9 k h]
theorem xl{α:Type}{l:List α}{k:Nat}{a:α}(h:l[k]?=some a):k<l.length:=by
 rcases jh k l.length with c|c
 ·exact c
 ·rw[eZ c]at h;cases h
theorem Cb(l:List Str)(hl:l.length<=100):pM [.lst (l.map D.str)]=some (.bl (!decide l.Nodup)):=AC l hl (by show some (D.int _)=_;rw[ag]) λk a h=>by have hk:=xl h;refine LL (pQ (oV (x:=.str a) (y:=.lst ((l.take k).map D.str)) (oV (x:=.lst (l.map D.str)) (y:=.int (k:Nat)) rfl rfl (uT (by rw[aY,h];rfl))) ((RV k (by rw[ag];omega)).trans (by rw[fN])) (qb false a (l.take k))))
theorem P9(l:List Str)(hl:l.length<=100):pM [.tup (l.map D.str)]=some (.bl (!decide l.Nodup)):=AC l hl (by show some (D.int _)=_;rw[ag]) λk a h=>by have hk:=xl h;refine LL (pQ (oV (x:=.str a) (y:=.tup ((l.take k).map D.str)) (oV (x:=.tup (l.map D.str)) (y:=.int (k:Nat)) rfl rfl (uT (by rw[aY,h];rfl))) ((Sx k (by rw[ag];omega)).trans (by rw[fN])) (xP false a (l.take k))))
theorem Fj:∀W:List Wy,vd (W.map prD)=some (W.map λw=>L3.Dq.tup [.str w.r,.str w.w])
 |[]=>rfl
 |w::W=>by rw[aF];unfold vd;rw[Fj W];rfl
theorem RW(r x:Str)(W:List Wy):dInT (.tup [.str r,.str x]) (.lst (W.map prD))=some (.bl (decide ([r,x]∈W.map pk2))):=by
 unfold dInT;dsimp only;rw[show toD (.tup [.str r,.str x])=some (.tup [.str r,.str x]) from rfl,Fj];dsimp only;rw[ah]
 ·congr 2;rw[bS,cN,bc,aI];constructor
  ·rintro⟨e,he,h⟩;obtain⟨w,hw,rfl⟩:=aI.mp he;have h:((w.r==r)&&((w.w==x)&&true))=true:=h;rw[aE,aE,beq_iff_eq,beq_iff_eq]at h;exact⟨w,hw,by unfold pk2;rw[h.1,h.2.1]⟩
  ·rintro⟨w,hw,h⟩;refine⟨_,aI.mpr ⟨w,hw,rfl⟩,?_⟩;have h1:w.r=r/\w.w=x:=by simpa [pk2]using h
   show ((w.r==r)&&((w.w==x)&&true))=true;rw[h1.1,h1.2];simp
 ·rw[aE];refine⟨rfl,aD.mpr λe he=>?_⟩;obtain⟨w,hw,rfl⟩:=aI.mp he;rfl
theorem Qa(W:List Wy)(hl:W.length<=100):pM [.lst (W.map prD)]=some (.bl (!decide (W.map pk2).Nodup)):=AC (W.map pk2) (by rw[ag];exact hl) (by show some (D.int _)=_;rw[ag,ag]) λk a h=>by
 have hk:=xl h;rw[ag]at hk;rw[aY,aQ hk]at h;have h:pk2 W[k]=a:=by simpa using h
 subst h;have ix:c2 dIx (cV 1) (cV 0) [.im (.int (k:Nat)),.im (.lst (W.map prD))]=some (prD W[k],[.im (.int (k:Nat)),.im (.lst (W.map prD))]):=oV (x:=.lst (W.map prD)) (y:=.int (k:Nat)) rfl rfl (uT (by rw[aY,aQ hk];rfl));have sl:=(RV (ds:=W.map prD) k (by rw[ag];omega)).trans (by rw[<-fN]);refine(RU (Mr ix sl ?_)).trans (pQ ((oV ix sl (RW W[k].r W[k].w (W.take k))).trans ?_))
 ·unfold dIn;show (if (qE (prD W[k])&&_)=true then _ else none)=none;rw[show qE (prD W[k])=false from rfl];rfl
 ·rw[fN];exact aX (λb=>some (D.bl b,_)) (decide_eq_decide.mpr Iff.rfl)
def s2B:FS:=(oK (sIf (cT (c2 (dEq false) (c1 (oH oU "kind") (cV 2)) (cS "room"))) (sIf (cT (c2 rO (c1 (oH oY "start") (cV 2)) (cC D.non))) (px (cC (.bl false))) pf) (sIf (qK (cAltT (cT (c2 (zc true) (c1 (oH oY "start") (cV 2)) (cFz 1))) (cT (c2 dNinN (c1 (oH oY "start") (cV 2)) (cFz 1)))) (cT (c2 (dIn true) (c1 (oH oU "kind") (c2 qQ (cFz 1) (c1 (oH oY "start") (cV 2)))) (cL (oJ (aCons (cS "room") (aCons (cS "box") (a1 (cS "you"))))))))) (px (cC (.bl false))) pf))
 (sIf (rb (cT (c2 (dEq false) (c1 (oH oU "kind") (cV 2)) (cS "you"))) (cT (c2 (dEq true) (c1 (oH oU "kind") (c2 qQ (cFz 1) (c1 (oH oY "start") (cV 2)))) (cS "room")))) (px (cC (.bl false))) pf))
def s3B:FS:=(oK (pd 3 (cV 2))
 (oK (q9 (iR1 (c1 rG (cV 0))) (gN 4) (sIf (cT (c2 (dEq true) (c1 (oH oU "kind") (cV 3)) (cS "room"))) (pd 3 (c2 qQ (cFz 1) (c1 (oH oY "start") (cV 3)))) pf))
 (sIf (cT (c2 (dEq true) (c1 (oH oU "kind") (cV 3)) (cS "room"))) (px (cC (.bl false))) pf)))
def s4B:FS:=(sIf (cT (c2 (dEq true) (c1 (oH oU "kind") (cV 3)) (cS "room"))) (pd 3 (c2 qQ (cFz 1) (c1 (oH oY "start") (cV 3)))) pf)
abbrev bD(T:List Tk):L4.D:=.dic (nK T) (T.map tkD)
def DC(T:List Tk)(x:Sl):Prop:=x=.dk (nK T) (T.map tkD)\/x=.im (bD T)
theorem fz1{x a:Sl}(h:DC T x)(r:List Sl):cFz 1 (a::x::r)=some (bD T,a::.im (bD T)::r):=by rcases h with rfl|rfl<;>rfl
section
variable{T:List Tk}(nd:(T.map Tk.m).Nodup)
include nd
theorem yG(ht:t∈T):r6 (nK T) (T.map tkD) (kS t.m)=some (tkD t):=by refine z9 (Bi nd) ?_;unfold nK;rw[me];exact cM (f:=λt=>(kS t.m,tkD t)) ht
theorem LM(h:x∉T.map Tk.m):r6 (nK T) (T.map tkD) (kS x)=none:=A6 λz=>by obtain⟨t,ht,e⟩:=aI.mp z;exact h (aI.mpr ⟨t,ht,B7 e⟩)
theorem Mt(hu:u∈T):qQ (bD T) (.str u.m)=some (tkD u):=yG nd hu
theorem Qb(hu:u∈T):zc true (.str u.m) (bD T)=some (.bl false):=by show some (D.bl (if true then !(r6 (nK T) (T.map tkD) (kS u.m)).isSome else _))=_;rw[yG nd hu];rfl
theorem RX(h:x∉T.map Tk.m):zc true (.str x) (bD T)=some (.bl true):=by show some (D.bl (if true then !(r6 (nK T) (T.map tkD) (kS x)).isSome else _))=_;rw[LM nd h];rfl
theorem RY(ht:t∈T)(hs:t.s=.non\/∃x,t.s=.str x)(a s2 s3 s4:Sl){x:Sl}(hx:DC T x):(stB T t=true->∃x',DC T x'/\s2B [a,x,.im (tkD t),s3,s4]=some (.nx [a,x',.im (tkD t),s3,s4]))/\(stB T t=false->∃ρ,s2B [a,x,.im (tkD t),s3,s4]=some (.rt (.bl false) ρ)):=by
 let ρ:List Sl:=[a,x,.im (tkD t),s3,s4];let σ:List Sl:=[a,.im (bD T),.im (tkD t),s3,s4];have e0:cT (c2 (dEq false) (c1 (oH oU "kind") (cV 2)) (cS "room")) ρ=some (decide (t.k=.room),ρ):=pQ (oV (pb rfl (qB t)) rfl (sT t.k .room));have st:∀ρ:List Sl,cV 2 ρ=some (tkD t,ρ)->c1 (oH oY "start") (cV 2) ρ=some (t.s,ρ):=λρ h=>pb h (wH t);have fr:cFz 1 ρ=some (bD T,σ):=fz1 hx _;have fs:cFz 1 σ=some (bD T,σ):=fz1 (.inr rfl) _;unfold s2B;by_cases hk:t.k=.room
 ·rw[aO hk]at e0;have eb:stB T t=vv t.s:=by unfold stB;rw[hk]
  rw[eb];have ey:rb (cT (c2 (dEq false) (c1 (oH oU "kind") (cV 2)) (cS "you"))) (cT (c2 (dEq true) (c1 (oH oU "kind") (c2 qQ (cFz 1) (c1 (oH oY "start") (cV 2)))) (cS "room"))) ρ=some (false,ρ):=by unfold rb;rw[show cT (c2 (dEq false) (c1 (oH oU "kind") (cV 2)) (cS "you")) ρ=some (false,ρ) from pQ ((oV (pb rfl (qB t)) rfl (sT t.k .you)).trans (by rw[hk];rfl))]
  rcases hs with e|⟨y,e⟩
  ·refine⟨λ_=>⟨x,hx,?_⟩,λz=>(by rw[e]at z;cases z)⟩;refine(oG (ρ':=ρ) ((p6 e0).trans ((p7 (pQ (oV (x:=t.s) (y:=.non) (st ρ rfl) rfl (by rw[e];rfl)))).trans rfl))).trans ((p7 ey).trans rfl)
  ·refine⟨λz=>(by rw[e]at z;cases z),λ_=>⟨ρ,?_⟩⟩;exact pZ ((p6 e0).trans ((p6 (pQ (oV (x:=t.s) (y:=.non) (st ρ rfl) rfl (by rw[e];rfl)))).trans rfl))
 ·rw[aU hk]at e0;have up:∀p:Tk->Bool,isIn t.s ((T.filter p).map Tk.m)=true ↔ ∃u∈T,t.s=.str u.m/\p u=true:=λp=>by
   constructor
   ·intro q;unfold isIn at q;split at q
    ·rename_i y e;obtain⟨u,hu,rfl⟩:=aI.mp (bC q);exact⟨u,(bu.mp hu).1,e,(bu.mp hu).2⟩
    ·cases q
   ·rintro⟨u,hu,e,h⟩;rw[e];exact aO (cM (bu.mpr ⟨hu,h⟩))
  have eb:stB T t=true ↔ ∃u∈T,t.s=.str u.m/\u.k.hd=true/\(t.k=.you->u.k=.room):=by
   unfold stB;split
   ·rename_i e;exact ao e hk
   ·rename_i e;refine(up _).trans ⟨?_,?_⟩
    ·rintro⟨u,hu,e1,e2⟩;have e2:=bC e2;exact⟨u,hu,e1,by rw[e2];rfl,λ_=>e2⟩
    ·rintro⟨u,hu,e1,_,e2⟩;exact⟨u,hu,e1,aO (e2 e)⟩
   ·rename_i n1 n2;refine(up _).trans ⟨?_,?_⟩
    ·rintro⟨u,hu,e1,e2⟩;exact⟨u,hu,e1,e2,λz=>ao z n2⟩
    ·rintro⟨u,hu,e1,e2,_⟩;exact⟨u,hu,e1,e2⟩
  have bad:(qK (cAltT (cT (c2 (zc true) (c1 (oH oY "start") (cV 2)) (cFz 1))) (cT (c2 dNinN (c1 (oH oY "start") (cV 2)) (cFz 1)))) (cT (c2 (dIn true) (c1 (oH oU "kind") (c2 qQ (cFz 1) (c1 (oH oY "start") (cV 2)))) (cL (oJ (aCons (cS "room") (aCons (cS "box") (a1 (cS "you"))))))))) ρ=some (true,σ)->(∃ρ',(oK (sIf (cT (c2 (dEq false) (c1 (oH oU "kind") (cV 2)) (cS "room"))) (sIf (cT (c2 rO (c1 (oH oY "start") (cV 2)) (cC D.non))) (px (cC (.bl false))) pf) (sIf (qK (cAltT (cT (c2 (zc true) (c1 (oH oY "start") (cV 2)) (cFz 1))) (cT (c2 dNinN (c1 (oH oY "start") (cV 2)) (cFz 1)))) (cT (c2 (dIn true) (c1 (oH oU "kind") (c2 qQ (cFz 1) (c1 (oH oY "start") (cV 2)))) (cL (oJ (aCons (cS "room") (aCons (cS "box") (a1 (cS "you"))))))))) (px (cC (.bl false))) pf))
 (sIf (rb (cT (c2 (dEq false) (c1 (oH oU "kind") (cV 2)) (cS "you"))) (cT (c2 (dEq true) (c1 (oH oU "kind") (c2 qQ (cFz 1) (c1 (oH oY "start") (cV 2)))) (cS "room")))) (px (cC (.bl false))) pf)) ρ=some (.rt (.bl false) ρ')):=λq=>⟨σ,pZ ((p7 e0).trans ((p6 q).trans rfl))⟩
  have or1:∀{c c':FT},c ρ=some (true,σ)->qK c c' ρ=some (true,σ):=λ{c c'} h=>by unfold qK;rw[h]
  rcases hs with e|⟨y,e⟩
  ·refine⟨λz=>(by obtain⟨u,_,e1,_⟩:=eb.mp z;rw[e]at e1;cases e1),λ_=>bad (or1 ?_)⟩;refine(RU (Mr (x:=t.s) (y:=bD T) (st ρ rfl) fr (by rw[e];rfl))).trans (pQ (oV (x:=t.s) (y:=bD T) (st ρ rfl) fr (by rw[e];rfl)))
  ·by_cases hy:y∈T.map Tk.m
   ·obtain⟨u,hu,rfl⟩:=aI.mp hy;have c1':cAltT (cT (c2 (zc true) (c1 (oH oY "start") (cV 2)) (cFz 1))) (cT (c2 dNinN (c1 (oH oY "start") (cV 2)) (cFz 1))) ρ=some (false,σ):=LL (pQ (oV (x:=t.s) (y:=bD T) (st ρ rfl) fr (by rw[e];exact Qb nd hu)));have gt:c2 qQ (cFz 1) (c1 (oH oY "start") (cV 2)) σ=some (tkD u,σ):=oV (x:=bD T) (y:=t.s) fs (st σ rfl) (by rw[e];exact Mt nd hu);have c2':cT (c2 (dIn true) (c1 (oH oU "kind") (c2 qQ (cFz 1) (c1 (oH oY "start") (cV 2)))) (cL (oJ (aCons (cS "room") (aCons (cS "box") (a1 (cS "you"))))))) σ=some (!u.k.hd,σ):=by refine pQ ((oV (x:=.str u.k.s) (y:=.lst ((["room", "box", "you"]:List Str).map D.str)) (pb gt (qB u)) rfl (qb true _ _)).trans ?_);rw[show decide (u.k.s∈(["room", "box", "you"]:List Str))=u.k.hd from Ea (P:=λk=>decide (k.s∈(["room", "box", "you"]:List Str))=k.hd) rfl rfl rfl rfl rfl rfl u.k];rfl
    cases hh:u.k.hd with
    |false=>
     rw[hh]at c2';refine⟨λz=>?_,λ_=>bad (DR c1' c2')⟩;obtain⟨v,hv,e1,e2,_⟩:=eb.mp z;rw[e]at e1;have:v=u:=by
      have q:=yG nd hv;have em:u.m=v.m:=by injection e1
      rw[<-em,yG nd hu]at q;have q:tkD u=tkD v:=by injection q
      obtain⟨un,uw,uk,us⟩:=u;obtain⟨vn,vw,vk,vs⟩:=v;have q1:[un,uw,D.str uk.s,us]=[vn,vw,D.str vk.s,vs]:=by injection q
      injection q1 with a1 a2;injection a2 with a2 a3;injection a3 with a3 a4;injection a4 with a4;injection a3 with a3;have:uk=vk:=by
       have z:=sT uk vk;rw[a3]at z;have z2:=sT vk vk;rw[z]at z2;have:decide (uk=vk)=decide (vk=vk):=by injection z2 with z2;injection z2
       rw[aO rfl]at this;exact bC this
      subst a1 a2 a4 this;rfl
     rw[this,hh]at e2;cases e2
    |true=>
     rw[hh]at c2';have c3:rb (cT (c2 (dEq false) (c1 (oH oU "kind") (cV 2)) (cS "you"))) (cT (c2 (dEq true) (c1 (oH oU "kind") (c2 qQ (cFz 1) (c1 (oH oY "start") (cV 2)))) (cS "room"))) σ=some (decide (t.k=.you)&&!decide (u.k=.room),σ):=AB (pQ (oV (pb rfl (qB t)) rfl (sT t.k .you))) λ_=>by
      refine pQ ((oV (x:=.str u.k.s) (y:=.str Kd.room.s) (pb gt (qB u)) rfl (rh true _ _)).trans ?_);have z:=sT u.k .room;rw[rh false]at z;have z:decide (u.k.s=Kd.room.s)=decide (u.k=.room):=by injection z with z;injection z
      rw[ah rfl,z]
     have pre:=(p7 (f:=sIf (cT (c2 rO (c1 (oH oY "start") (cV 2)) (cC D.non))) (px (cC (.bl false))) pf) e0).trans ((p7 (f:=px (cC (.bl false))) (g:=pf) (DR c1' c2')).trans rfl);cases hq:decide (t.k=.you)&&!decide (u.k=.room)with
     |false=>
      rw[hq]at c3;refine⟨λ_=>⟨.im (bD T),.inr rfl,(oG pre).trans ((p7 c3).trans rfl)⟩,λz=>?_⟩;have:stB T t=true:=eb.mpr ⟨u,hu,e,hh,λhy=>by
       rw[aO hy,de,dS,bc]at hq;exact hq⟩
      rw[this]at z;cases z
     |true=>
      rw[hq]at c3;rw[aE,bc,bV,decide_eq_false_iff_not]at hq;refine⟨λz=>?_,λ_=>⟨σ,(oG pre).trans ((p6 c3).trans rfl)⟩⟩;obtain⟨v,hv,e1,_,e2⟩:=eb.mp z;rw[e]at e1;have em:u.m=v.m:=by injection e1
      have q:=yG nd hv;rw[<-em,yG nd hu]at q;have q:tkD u=tkD v:=by injection q
      have kk:=qB u;rw[q,qB v,e2 hq.1]at kk;have ks:Kd.room.s=u.k.s:=by injection kk with kk;injection kk
      have z:=sT u.k .room;rw[<-ks,rh false]at z;have z:decide (Kd.room.s=Kd.room.s)=decide (u.k=.room):=by injection z with z;injection z
      rw[aO rfl]at z;exact ao (bC z.symm) hq.2
   ·refine⟨λz=>(by obtain⟨u,hu,e1,_⟩:=eb.mp z;rw[e]at e1;exact ao (by injection e1 with e1;rw[e1];exact cM hu) hy),λ_=>bad (or1 ?_)⟩;exact LL (pQ (oV (x:=t.s) (y:=bD T) (st ρ rfl) fr (by rw[e];exact RX nd hy)))
def wk(T:List Tk):Nat->Tk->Tk
 |0,t=>t
 |n+1,t=>wk T n (if t.k=.room then t else nxT T t)
variable(h:T.all (stB T)=true)
include h
theorem RZ:∀(n:Nat) {t:Tk},t∈T->wk T n t∈T
 |0,t,ht=>ht
 |n+1,t,ht=>by
  refine RZ n ?_;rcases yE h ht with ⟨e,_⟩|⟨e,u,hu,e2,_⟩
  ·rw[ah e];exact ht
  ·rw[ai e,Fc nd hu e2];exact hu
theorem Jw:∀(n:Nat) {t:Tk},t∈T->decide ((wk T n t).k=.room)=rc T n t
 |0,t,ht=>by
  show decide (t.k=.room)=vv t.s;rcases yE h ht with ⟨e,e2⟩|⟨e,u,hu,e2,_⟩
  ·rw[aO e,e2];rfl
  ·rw[aU e,e2];rfl
 |n+1,t,ht=>by
  show decide ((wk T n (if t.k=.room then t else nxT T t)).k=.room)=(vv t.s||rc T n (nxT T t));rcases yE h ht with ⟨e,e2⟩|⟨e,u,hu,e2,_⟩
  ·rw[ah e,Jw n ht,e2];have:∀m,rc T m t=true:=λm=>by cases m<;>(unfold rc;rw[e2];rfl)
   rw[this n];rfl
  ·rw[ai e,Fc nd hu e2,Jw n hu,e2];rfl
theorem yH(a:Sl)(t:L4.D):∀(l:List L4.D) {u:Tk} (s:Sl) {x:Sl},u∈T->DC T x->∃x' s',DC T x'/\forL (gN 4) s4B l [a,x,.im t,.im (tkD u),s]=some (.nx [a,x',.im t,.im (tkD (wk T l.length u)),s'])
 |[],u,s,x,hu,hx=>⟨x,s,hx,rfl⟩
 |d::l,u,s,x,hu,hx=>by
  let ρ:List Sl:=[a,x,.im t,.im (tkD u),.im d];have e0:cT (c2 (dEq true) (c1 (oH oU "kind") (cV 3)) (cS "room")) ρ=some (!decide (u.k=.room),ρ):=by
   refine pQ ((oV (x:=.str u.k.s) (y:=.str Kd.room.s) (pb rfl (qB u)) rfl (rh true _ _)).trans ?_);have z:=sT u.k .room;rw[rh false]at z;have z:decide (u.k.s=Kd.room.s)=decide (u.k=.room):=by injection z with z;injection z
   rw[ah rfl,z]
  rcases yE h hu with ⟨e,e2⟩|⟨e,v,hv,e2,_⟩
  ·rw[aO e]at e0;obtain⟨x',s',h1,h2⟩:=yH a t l (u:=u) (.im d) hu hx;refine⟨x',s',h1,?_⟩;show _=some (Out.nx [a,x',.im t,.im (tkD (wk T l.length (if u.k=.room then u else nxT T u))),s']);rw[ah e,<- h2]
   conv=>lhs;unfold forL
   rw[show gN 4 d [a,x,.im t,.im (tkD u),s]=some ρ from rfl];simp only[show s4B ρ=some (.nx ρ) from(p7 e0).trans rfl];rfl
  ·rw[aU e]at e0;obtain⟨x',s',h1,h2⟩:=yH a t l (u:=v) (.im d) (x:=.im (bD T)) hv (.inr rfl);refine⟨x',s',h1,?_⟩;show _=some (Out.nx [a,x',.im t,.im (tkD (wk T l.length (if u.k=.room then u else nxT T u))),s']);rw[ai e,Fc nd hv e2,<- h2]
   conv=>lhs;unfold forL
   rw[show gN 4 d [a,x,.im t,.im (tkD u),s]=some ρ from rfl];simp only[show s4B ρ=some (.nx [a,.im (bD T),.im t,.im (tkD v),.im d]) from(p6 e0).trans ((ph (oV (x:=bD T) (y:=u.s) (fz1 hx _) (pb rfl (wH u)) (by rw[e2];exact Mt nd hv))).trans rfl)]
end
section
variable{T:List Tk}(hl:T.length<=7)(hn:∀t∈T,t.n=.str t.m)(nd:(T.map Tk.m).Nodup)(hs:∀t∈T,t.s=.non\/∃x,t.s=.str x)
include hl hn nd hs
theorem Mu(a s3 s4:Sl):∀(l:List Tk) (s2:Sl) {x:Sl},(∀t∈l,t∈T)->DC T x->(l.all (stB T)=true->∃x' s',DC T x'/\forL (gN 2) s2B (l.map tkD) [a,x,s2,s3,s4]=some (.nx [a,x',s',s3,s4]))/\(l.all (stB T)=false->∃ρ,forL (gN 2) s2B (l.map tkD) [a,x,s2,s3,s4]=some (.rt (.bl false) ρ))
 |[],s2,x,_,hx=>⟨λ_=>⟨x,s2,hx,rfl⟩,λz=>by cases z⟩
 |t::l,s2,x,hi,hx=>by
  have ht:=hi t aG;obtain⟨h1,h2⟩:=RY nd ht (hs t ht) a s2 s3 s4 hx;rw[aF,cq];have un:∀{o:Option Out},(match s2B [a,x,.im (tkD t),s3,s4]with|some (.nx ρ)=>forL (gN 2) s2B (l.map tkD) ρ|r=>r)=o->True:=λ_=>trivial;cases hb:stB T t with
  |false=>refine⟨λz=>(by cases z),λ_=>?_⟩;obtain⟨ρ,e⟩:=h2 hb;refine⟨ρ,?_⟩;unfold forL;rw[show gN 2 (tkD t) [a,x,s2,s3,s4]=some [a,x,.im (tkD t),s3,s4] from rfl];simp only[e]
  |true=>
   obtain⟨x',hx',e⟩:=h1 hb;obtain⟨g1,g2⟩:=Mu a s3 s4 l (.im (tkD t)) (λu hu=>hi u (aH _ hu)) hx';rw[de];have st:forL (gN 2) s2B (tkD t::l.map tkD) [a,x,s2,s3,s4]=forL (gN 2) s2B (l.map tkD) [a,x',.im (tkD t),s3,s4]:=by
    conv=>lhs;unfold forL
    rw[show gN 2 (tkD t) [a,x,s2,s3,s4]=some [a,x,.im (tkD t),s3,s4] from rfl];simp only[e]
   rw[st];exact⟨g1,g2⟩
theorem Mv(h:T.all (stB T)=true)(s3 s4:Sl):∀(l:List Tk) (s2 s3 s4:Sl) {x:Sl},(∀t∈l,t∈T)->DC T x->(l.all (rc T T.length)=true->∃ρ',forL (gN 2) s3B (l.map tkD) [.im (LD T),x,s2,s3,s4]=some (.nx ρ'))/\(l.all (rc T T.length)=false->∃ρ,forL (gN 2) s3B (l.map tkD) [.im (LD T),x,s2,s3,s4]=some (.rt (.bl false) ρ))
 |[],s2,s3,s4,x,_,hx=>⟨λ_=>⟨_,rfl⟩,λz=>by cases z⟩
 |t::l,s2,s3,s4,x,hi,hx=>by
  have ht:=hi t aG;have ll:(wJ 0 T.length).length=T.length:=by unfold wJ;rw[ag,bK]
  obtain⟨x',s',hx',e⟩:=yH nd h (.im (LD T)) (tkD t) (wJ 0 T.length) (u:=t) s4 ht hx;rw[ll]at e;let σ:List Sl:=[.im (LD T),x',.im (tkD t),.im (tkD (wk T T.length t)),s'];have er:iR1 (c1 rG (cV 0)) [.im (LD T),x,.im (tkD t),.im (tkD t),s4]=some (wJ 0 T.length,[.im (LD T),x,.im (tkD t),.im (tkD t),s4]):=by unfold iR1;rw[show c1 rG (cV 0) [.im (LD T),x,.im (tkD t),.im (tkD t),s4]=some (.int T.length,[.im (LD T),x,.im (tkD t),.im (tkD t),s4]) from pb rfl (by show some (D.int _)=_;rw[ag])];simp only;rw[ah (by omega),gp]
  have e0:cT (c2 (dEq true) (c1 (oH oU "kind") (cV 3)) (cS "room")) σ=some (!rc T T.length t,σ):=by
   refine pQ ((oV (x:=.str (wk T T.length t).k.s) (y:=.str Kd.room.s) (pb rfl (qB _)) rfl (rh true _ _)).trans ?_);have z:=sT (wk T T.length t).k .room;rw[rh false]at z;have z:decide ((wk T T.length t).k.s=Kd.room.s)=decide ((wk T T.length t).k=.room):=by injection z with z;injection z
   rw[ah rfl,z,Jw nd h T.length ht]
  have pre:∀{o:Out},sIf (cT (c2 (dEq true) (c1 (oH oU "kind") (cV 3)) (cS "room"))) (px (cC (.bl false))) pf σ=some o->s3B [.im (LD T),x,.im (tkD t),s3,s4]=some o:=λ{o} q=>by unfold s3B;exact(oG (ρ':=[.im (LD T),x,.im (tkD t),.im (tkD t),s4]) rfl).trans ((oG ((pW er).trans e)).trans q)
  rw[aF,cq];cases hb:rc T T.length t with
  |false=>rw[hb]at e0;refine⟨λz=>(by cases z),λ_=>⟨σ,?_⟩⟩;unfold forL;rw[show gN 2 (tkD t) [.im (LD T),x,s2,s3,s4]=some [.im (LD T),x,.im (tkD t),s3,s4] from rfl];simp only[pre ((p6 e0).trans rfl)]
  |true=>
   rw[hb]at e0;obtain⟨g1,g2⟩:=Mv h s3 s4 l (.im (tkD t)) (.im (tkD (wk T T.length t))) s' (λu hu=>hi u (aH _ hu)) hx';rw[de];have st:forL (gN 2) s3B (tkD t::l.map tkD) [.im (LD T),x,s2,s3,s4]=forL (gN 2) s3B (l.map tkD) σ:=by
    conv=>lhs;unfold forL
    rw[show gN 2 (tkD t) [.im (LD T),x,s2,s3,s4]=some [.im (LD T),x,.im (tkD t),s3,s4] from rfl];simp only[pre ((p7 e0).trans rfl)]
   rw[st];exact⟨g1,g2⟩
theorem Ef:uy [LD T]=some (.bl (T.all (stB T)&&T.all (rc T T.length))):=by
 obtain⟨s',e1⟩:=tu (g:=gN 2) (i:=1) (fk:=c1 (oH oQ "name") (cV 2)) (fv:=cV 2) tkD Tk.m tkD (λks ds s=>[.im (LD T),.dk ks ds,s,.un,.un]) T
  (λt ht ks ds s=>⟨[.im (LD T),.dk ks ds,.im (tkD t),.un,.un],rfl,rfl,rfl,pb rfl ((rD t).trans (by rw[hn t ht])),λks' ds'=>⟨_,rfl⟩⟩) T [] [] .un (λ_ h=>h) (by rw[bM];exact Bi nd) (by rw[bg];omega) rfl
 rw[bM,bM]at e1;have pre:∀{o:Out},(oK (q9 (iL (cV 0)) (gN 2) s2B) (oK (q9 (iL (cV 0)) (gN 2) s3B) (px (cC (.bl true))))) [.im (LD T),.dk (nK T) (T.map tkD),s',.un,.un]=some o->sv [.im (LD T),.un,.un,.un,.un]=some o:=λ{o} q=>by unfold sv;exact(oG (ρ':=[.im (LD T),.dk [] [],.un,.un,.un]) rfl).trans ((oG ((pW rfl).trans e1)).trans q)
 obtain⟨g1,g2⟩:=Mu hl hn nd hs (.im (LD T)) .un .un T s' (x:=.dk (nK T) (T.map tkD)) (λt h=>h) (.inl rfl);cases h:T.all (stB T)with
 |false=>obtain⟨ρ,e⟩:=g2 h;exact pX (ρ:=ρ) rfl (pre (pZ ((pW rfl).trans e)))
 |true=>
  obtain⟨x',s2,hx',e⟩:=g1 h;obtain⟨k1,k2⟩:=Mv hl hn nd hs h .un .un T s2 .un .un (λt h=>h) hx';cases h':T.all (rc T T.length)with
  |false=>obtain⟨ρ,e2⟩:=k2 h';exact pX (ρ:=ρ) rfl (pre ((oG ((pW rfl).trans e)).trans (pZ ((pW rfl).trans e2))))
  |true=>obtain⟨ρ,e2⟩:=k1 h';exact pX (ρ:=ρ) rfl (pre ((oG ((pW rfl).trans e)).trans ((oG ((pW rfl).trans e2)).trans rfl)))
end
def RT(f:FS)(ρ:List Sl)(b:Bool):Prop:=∃ρ',f ρ=some (.rt (.bl b) ρ')
theorem RT.nx(h:f ρ=some (.nx ρ1))(h':RT f' ρ1 b):RT (oK f f') ρ b:=by obtain⟨ρ',e⟩:=h';exact⟨ρ',(oG h).trans e⟩
theorem RT.if(h:c ρ=some (b,ρ1))(h':b=false->RT f' ρ1 b'):RT (oK (sIf c (px (cC (.bl false))) pf) f') ρ (!b&&b'):=by
 cases b with
 |true=>exact⟨ρ1,pZ ((p6 h).trans rfl)⟩
 |false=>obtain⟨ρ',e⟩:=h' rfl;exact⟨ρ',(Ms h).trans e⟩
theorem AD{α:Type}(dd:α->L4.D){g:FG}{f:FS}(p:α->Bool)(St:List Sl->Prop){A:List α}(step:∀a∈A,∀ρ,St ρ->∃ρ1,g (dd a) ρ=some ρ1/\(p a=true->∃ρ',St ρ'/\f ρ1=some (.nx ρ'))/\(p a=false->∃ρ',f ρ1=some (.rt (.bl false) ρ'))):∀(l:List α),(∀a∈l,a∈A)->∀ρ,St ρ->(l.all p=true->∃ρ',St ρ'/\forL g f (l.map dd) ρ=some (.nx ρ'))/\(l.all p=false->∃ρ',forL g f (l.map dd) ρ=some (.rt (.bl false) ρ'))
 |[],_,ρ,h=>⟨λ_=>⟨ρ,h,rfl⟩,λz=>(by cases z)⟩
 |a::l,hi,ρ,h=>by
  obtain⟨ρ1,e0,h1,h2⟩:=step a (hi a aG) ρ h;rw[aF,cq];cases hb:p a with
  |false=>obtain⟨ρ',e⟩:=h2 hb;refine⟨λz=>(by cases z),λ_=>⟨ρ',?_⟩⟩;unfold forL;rw[e0];simp only[e]
  |true=>
   obtain⟨ρ',s',e⟩:=h1 hb;obtain⟨g1,g2⟩:=AD dd p St step l (λb hb=>hi b (aH _ hb)) ρ' s';rw[de];have st:forL g f (dd a::l.map dd) ρ=forL g f (l.map dd) ρ':=by
    conv=>lhs;unfold forL
    rw[e0];simp only[e]
   rw[st];exact⟨g1,g2⟩
theorem RT.for{α:Type}(dd:α->L4.D){s:FA}{g:FG}{ρ0:List Sl}(p:α->Bool)(St:List Sl->Prop)(l:List α)(hs:s ρ=some (l.map dd,ρ0))(h0:St ρ0)(step:∀a∈l,∀ρ,St ρ->∃ρ1,g (dd a) ρ=some ρ1/\(p a=true->∃ρ',St ρ'/\f ρ1=some (.nx ρ'))/\(p a=false->∃ρ',f ρ1=some (.rt (.bl false) ρ')))(h':l.all p=true->∀ρ',St ρ'->RT f' ρ' b'):RT (oK (q9 s g f) f') ρ (l.all p&&b'):=by
 obtain⟨g1,g2⟩:=AD dd p St step l (λa h=>h) ρ0 h0;cases hb:l.all p with
 |false=>obtain⟨ρ',e⟩:=g2 hb;exact⟨ρ',pZ ((pW hs).trans e)⟩
 |true=>obtain⟨ρ',s',e⟩:=g1 hb;obtain⟨ρ'',e2⟩:=h' hb ρ' s';exact⟨ρ'',(oG ((pW hs).trans e)).trans e2⟩
theorem Jx{n:Nat}(h:ds.length=np)(r:RT f (stE n ds) b):fnD np n f ds=some (.bl b):=by obtain⟨ρ',e⟩:=r;exact pX h e
theorem Cd(h:c ρ=some (b,ρ)):(b=false->sIf c (px (cC (.bl false))) pf ρ=some (.nx ρ))/\(b=true->∃ρ',sIf c (px (cC (.bl false))) pf ρ=some (.rt (.bl false) ρ')):=by
 refine⟨λz=>?_,λz=>⟨ρ,?_⟩⟩
 ·rw[z]at h;exact(p7 h).trans rfl
 ·rw[z]at h;exact(p6 h).trans rfl
theorem Fk{α:Type}(l:List α)(p:α->Bool)(f:α->L4.D):decide ((l.filter p).map f=[])=l.all λx=>!p x:=by rw[bS,bc,kq,ip,aD];exact forall_congr' λx=>forall_congr' λ_=>by cases p x<;>simp
theorem Fl(l:List Str)(p:Str->Bool):(l.filter p).isEmpty=l.all λx=>!p x:=by rw[bS,List.isEmpty_iff,ip,aD];exact forall_congr' λx=>forall_congr' λ_=>by cases p x<;>simp
theorem Bp:∀l:List Str,xN (l.map D.str)=some l
 |[]=>rfl
 |x::l=>by rw[aF];unfold xN;rw[Bp l]
def tgQ:FS:=(sIf (rb (cT (c2 (dEq true) (c1 (oH oQ "name") (cV 6)) (c1 (oH oQ "name") (cV 5)))) (cT (c2 dEqN (cL (oT 1 [6] (iT (c1 (oH pj "words") (cV 5))) (gN 0) (cT (c2 (dIn true) (cV 0) (c1 (oH pj "words") (cV 1)))) (cV 0))) (cL (oJ pC))))) (px (cC (.bl false))) pf)
def bdN:List Str:=["it", "here", "undo"]
def G1(T:List Tk)(M:List Mk):Bool:=!(!decide (aN T M).Nodup||!(aN T M).all λx=>!decide (x∈bdN))&&(!(!decide ((cK .you T:Int)=1)||(!(decide ((1:Int)<=cK .room T)&&decide ((cK .room T:Int)<=5))||!(T.all (stB T)&&T.all (rc T T.length))))&&(T.all wNd&&((plN T).all (taB hA (plN T))&&M.all mOk)))
theorem Qc(k:Kd):dCntS (.lst ((T.map λt=>t.k.s).map D.str)) (.str k.s)=some (.int (cK k T)):=by
 show (match xN ((T.map λt=>t.k.s).map D.str)with|some ss=>some (D.int ((ss.countP λx=>decide (x=k.s)):Nat))|none=>none)=_;rw[Bp];show some (D.int (((T.map λt=>t.k.s).countP λx=>decide (x=k.s)):Nat))=_;rw[List.countP_map];unfold cK;rw[<-List.countP_eq_length_filter];congr 3;refine List.countP_congr λt _=>?_;have z:=sT t.k k;rw[rh false]at z;have z:decide (t.k.s=k.s)=decide (t.k=k):=by injection z with z;injection z
 show decide (t.k.s=k.s)=true ↔ decide (t.k=k)=true;rw[z]
theorem R0(k:Kd):(!decide (k.s∈(["room", "you"]:List Str)))=k.pl:=Ea (P:=λk=>(!decide (k.s∈(["room", "you"]:List Str)))=k.pl) rfl rfl rfl rfl rfl rfl k
section
variable{S:List Th}{M:List Mk}{dk:List Str}{W:List Wy}{V:List Vk}(d:Dn S M dk W V)
include d
theorem Dn.hs':∀t∈TT S,t.s=.non\/∃x,t.s=.str x:=λt ht=>by
 obtain⟨u,_,rfl⟩:=aI.mp ht;show oS u.s=.non\/∃x,oS u.s=.str x;cases u.s with
 |none=>exact .inl rfl
 |some x=>exact .inr ⟨x,rfl⟩
theorem Dn.good1:rB [LD (TT S),MD M]=some (.bl (G1 (TT S) M)):=by
 have hl:=d.hl;have lm:=d.ml;have hP:(plN (TT S)).length<=7:=bp (dP _ _) hl;generalize eT:TT S=T at hl hP;have hn:∀t∈T,t.n=.str t.m:=eT▸d.hn;have hw:∀t∈T,t.w=.tup ((tw t).map D.str)/\(tw t).length<=4/\pV [t.w]=some (.bl (wNd t)):=eT▸d.hw;have hs':∀t∈T,t.s=.non\/∃x,t.s=.str x:=eT▸d.hs';have la:(aN T M).length<=20:=by unfold aN;rw[au,ag,ag];omega
 let A:Sl:=.im (LD T);let B:Sl:=.im (MD M);let N:Sl:=.im (.lst ((aN T M).map D.str));let K:Sl:=.im (.lst ((T.map λt=>t.k.s).map D.str));let P:Sl:=.im (LD (plN T));let U:Sl:=.un;refine Jx rfl ?_;unfold rA;let ρ0:List Sl:=[A,B,U,U,U,U,U];have e1:oT 1 [] (iL (cV 0)) (gN 0) pF (c1 (oH oQ "name") (cV 0)) ρ0=some ((T.map Tk.m).map D.str,ρ0):=(uc tkD Tk.n T rfl (by omega) λt _=>⟨_,_,rfl,pb rfl (rD t),rfl⟩).trans (by rw[bx,iC λt ht=>hn t ht];rfl);have e2:oT 1 [] (iL (cV 1)) (gN 0) pF (c1 (oH oQ "name") (cV 0)) ρ0=some ((M.map Mk.n).map D.str,ρ0):=(uc mkD (λm=>D.str m.n) M rfl (by omega) λt _=>⟨_,_,rfl,pb rfl (zk t),rfl⟩).trans (by rw[bx];rfl);refine RT.nx (ρ1:=[A,B,N,U,U,U,U]) ((ph (pL (qP (pL e1) (pL e2) (by rw[ag,ag,ag,ag];omega)))).trans (by rw[<-bj];rfl)) ?_;let ρ1:List Sl:=[A,B,N,U,U,U,U];have e3:cT (c2 (dEq true) (cL (oT 1 [] (iL (cV 2)) (gN 0) (cT (c2 (dIn false) (cV 0) (cL (oJ (aCons (cS "it") (aCons (cS "here") (a1 (cS "undo")))))))) (cV 0))) (cL (oJ pC))) ρ1=some (!(aN T M).all λx=>!decide (x∈bdN),ρ1):=by refine pQ ((oV (x:=.lst (((aN T M).filter λx=>decide (x∈bdN)).map D.str)) (y:=.lst []) (ρ1:=ρ1) (ρ2:=ρ1) (pL (qI D.str D.str (λx=>decide (x∈bdN)) (aN T M) (ρ1:=ρ1) rfl (by omega) λx _=>⟨[.im (.str x)],[.im (.str x)],rfl,pQ (oV (x:=.str x) (y:=.lst (bdN.map D.str)) rfl rfl (qb false x bdN)),λ_=>⟨_,rfl,rfl⟩,λ_=>rfl⟩)) rfl (Fi _)).trans ?_);rw[Fl]
 refine RT.if (ρ1:=ρ1) (sy (pQ (oX (ds:=[.lst ((aN T M).map D.str)]) rfl (Cb (aN T M) (by omega)))) λ_=>e3) λhb=>?_;have nd:(T.map Tk.m).Nodup:=by
  rw[fi]at hb;have:decide (aN T M).Nodup=true:=by simpa using hb.1
  exact(bR.mp (bC this)).1
 refine RT.nx (ρ1:=[A,B,N,K,U,U,U]) ((ph (pL ((uc tkD (λt=>D.str t.k.s) T (ρ1:=ρ1) rfl (by omega) λt _=>⟨[.im (tkD t)],[.im (tkD t)],rfl,pb rfl (qB t),rfl⟩).trans (by rw[show (T.map λt=>D.str t.k.s)=(T.map λt=>t.k.s).map D.str by rw[bx];rfl])))).trans rfl) ?_;let ρ2:List Sl:=[A,B,N,K,U,U,U];have cn:∀k:Kd,c2 dCntS (cV 3) (cC (.str k.s)) ρ2=some (.int (cK k T),ρ2):=λk=>oV (x:=.lst ((T.map λt=>t.k.s).map D.str)) (y:=.str k.s) rfl rfl (Qc k);refine RT.if (ρ1:=ρ2) (sy (pQ (oV (x:=.int (cK .you T)) (y:=.int 1) (cn .you) rfl (wD true _ 1))) λ_=>sy (zh (pQ (yc (x:=1) (y:=cK .room T) (z:=5) rfl (cn .room) rfl))) λ_=>zh (pQ (oX (ds:=[LD T]) rfl (Ef hl hn nd hs')))) λ_=>?_;refine RT.nx (ρ1:=[A,B,N,K,P,U,U]) ((ph (pL (qI tkD tkD (λt=>t.k.pl) T (ρ1:=ρ2) rfl (by omega) λt _=>⟨[.im (tkD t)],[.im (tkD t)],rfl,pQ ((oV (x:=.str t.k.s) (y:=.lst ((["room", "you"]:List Str).map D.str)) (pb rfl (qB t)) rfl (qb true _ _)).trans (by rw[ah rfl,R0])),λ_=>⟨_,rfl,rfl⟩,λ_=>rfl⟩))).trans rfl) ?_;refine RT.for tkD wNd (λρ=>∃s5 s6,ρ=[A,B,N,K,P,s5,s6]) T rfl ⟨U,U,rfl⟩ (λt ht ρ hρ=>?_) λ_ ρ hρ=>?_
 ·obtain⟨s5,s6,rfl⟩:=hρ;obtain⟨i1,i2⟩:=Cd (c:=cT (oP pM (a1 (c1 (oH pj "words") (cV 5))))) (ρ:=[A,B,N,K,P,.im (tkD t),s6]) (pQ (oX (ds:=[.tup ((tw t).map D.str)]) (oR (pb rfl ((ud t).trans (aX some (hw t ht).1))) rfl) (P9 (tw t) (by have:=(hw t ht).2.1;omega))));refine⟨_,rfl,λhb=>⟨_,⟨_,_,rfl⟩,i1 ?_⟩,λhb=>i2 ?_⟩
  ·rw[show decide (tw t).Nodup=true from hb];rfl
  ·rw[show decide (tw t).Nodup=false from hb];rfl
 obtain⟨s5,s6,rfl⟩:=hρ;refine RT.for tkD (taB hA (plN T)) (λρ=>∃s5 s6,ρ=[A,B,N,K,P,s5,s6]) (plN T) rfl ⟨s5,s6,rfl⟩ (λt ht ρ hρ=>?_) λ_ ρ hρ=>?_
 ·obtain⟨s5,s6,rfl⟩:=hρ;have htT:=(bu.mp ht).1;let X:Sl:=.im (tkD t);have et:taB hA (plN T) t=(plN T).all λu=>!(!decide (u.m=t.m)&&hA u t):=by unfold taB;rw[List.any_filter,List.not_any_eq_all_not]
  obtain⟨g1,g2⟩:=AD tkD (g:=gN 6) (f:=tgQ) (λu=>!(!decide (u.m=t.m)&&hA u t)) (λρ=>∃s6,ρ=[A,B,N,K,P,X,s6]) (A:=plN T) (λu hu ρ hρ=>by
   obtain⟨s6,rfl⟩:=hρ;have huT:=(bu.mp hu).1;let τ:List Sl:=[A,B,N,K,P,X,.im (tkD u)];have q1:cT (c2 (dEq true) (c1 (oH oQ "name") (cV 6)) (c1 (oH oQ "name") (cV 5))) τ=some (!decide (u.m=t.m),τ):=pQ (oV (x:=.str u.m) (y:=.str t.m) (pb rfl ((rD u).trans (by rw[hn u huT]))) (pb rfl ((rD t).trans (by rw[hn t htT]))) (rh true u.m t.m));have q2:cT (c2 dEqN (cL (oT 1 [6] (iT (c1 (oH pj "words") (cV 5))) (gN 0) (cT (c2 (dIn true) (cV 0) (c1 (oH pj "words") (cV 1)))) (cV 0))) (cL (oJ pC))) τ=some (hA u t,τ):=by
    have it:iT (c1 (oH pj "words") (cV 5)) τ=some ((tw t).map D.str,τ):=by unfold iT;rw[show c1 (oH pj "words") (cV 5) τ=some (.tup ((tw t).map D.str),τ) from pb rfl ((ud t).trans (aX some (hw t htT).1))]
    refine pQ ((oV (x:=.lst (((tw t).filter λx=>!decide (x∈tw u)).map D.str)) (y:=.lst []) (ρ1:=τ) (ρ2:=τ) (pL (qI D.str D.str (λx=>!decide (x∈tw u)) (tw t) it (by have:=(hw t htT).2.1;omega) λx _=>⟨[.im (.str x),.im (tkD u)],[.im (.str x),.im (tkD u)],rfl,pQ (oV (x:=.str x) (y:=.tup ((tw u).map D.str)) rfl (pb rfl ((ud u).trans (aX some (hw u huT).1))) (xP true x (tw u))),λ_=>⟨_,rfl,rfl⟩,λ_=>rfl⟩)) rfl (Fh _)).trans ?_);rw[Fk];unfold hA;simp only[eO]
   obtain⟨i1,i2⟩:=Cd (AB q1 λ_=>q2);refine⟨τ,rfl,λhb=>⟨τ,⟨_,rfl⟩,i1 ?_⟩,λhb=>i2 ?_⟩
   ·rw[bV]at hb;exact hb
   ·rw[dS]at hb;exact hb) (plN T) (λu h=>h) [A,B,N,K,P,X,s6] ⟨s6,rfl⟩
  refine⟨[A,B,N,K,P,X,s6],rfl,λhb=>?_,λhb=>?_⟩
  ·rw[et]at hb;obtain⟨ρ',⟨s',rfl⟩,e⟩:=g1 hb;exact⟨_,⟨_,_,rfl⟩,(pW rfl).trans e⟩
  ·rw[et]at hb;obtain⟨ρ',e⟩:=g2 hb;exact⟨ρ',(pW rfl).trans e⟩
 obtain⟨s5,s6,rfl⟩:=hρ;let τ:List Sl:=[A,B,N,K,P,s5,s6];refine⟨τ,qf ((oV (x:=.lst ((M.filter λm=>!mOk m).map mkD)) (y:=.lst []) (ρ1:=τ) (ρ2:=τ) (pL (qI mkD mkD (λm=>!mOk m) M (ρ1:=τ) rfl (by omega) λm _=>⟨[.im (mkD m)],[.im (mkD m)],rfl,?_,λ_=>⟨_,rfl,rfl⟩,λ_=>rfl⟩)) rfl (Fh _)).trans ?_)⟩
 ·have fm:∀ρ:List Sl,cV 0 ρ=some (mkD m,ρ)->c1 (oH rg "most") (cV 0) ρ=some (.int m.mo,ρ):=λρ h=>pb h rfl;have fs:∀ρ:List Sl,cV 0 ρ=some (mkD m,ρ)->c1 (oH oY "start") (cV 0) ρ=some (.int m.st,ρ):=λρ h=>pb h rfl;refine(sy (zh (pQ (yc (x:=1) (y:=m.mo) (z:=3) rfl (fm _ rfl) rfl))) λ_=>zh (pQ (yc (x:=0) (y:=m.st) (z:=m.mo) rfl (fs _ rfl) (fm _ rfl)))).trans ?_;show _=some (!((decide (1<=m.mo)&&decide (m.mo<=3))&&(decide (0<=m.st)&&decide (m.st<=m.mo))),_);generalize (decide (1<=m.mo)&&decide (m.mo<=3))=p;generalize (decide (0<=m.st)&&decide (m.st<=m.mo))=q;cases p<;>cases q<;>rfl
 ·rw[Fk];simp only[eO]
end
def drs(T:List Tk)(M:List Mk):List Str:=M.map Mk.n++(T.filter λt=>t.k.mk).map Tk.m
def dmB(l:List Str):Option Str->Bool
 |none=>false
 |some x=>!decide (x∈l)
def wgB(T:List Tk)(M:List Mk)(w:Wy):Bool:=!(!decide (w.r∈rmN T)||(!decide (w.g∈rmN T)||(decide (w.w="the")||dmB (drs T M) w.m)))
def G2(T:List Tk)(M:List Mk)(dk:List Str)(W:List Wy):Bool:=!(!dk.all (λx=>decide (x∈rmN T))||(!decide dk.Nodup||!decide (W.map pk2).Nodup))&&(W.all (wgB T M)&&true)
theorem Sy(k:Kd):decide (k.s∈(["box", "lamp"]:List Str))=k.mk:=Ea (P:=λk=>decide (k.s∈(["box", "lamp"]:List Str))=k.mk) rfl rfl rfl rfl rfl rfl k
theorem Ce{p:Str->Bool}(h:e ρ=some (.lst ((l.filter p).map D.str),ρ)):cT (c2 (dEq true) e (cL (oJ pC))) ρ=some (!l.all λx=>!p x,ρ):=pQ ((oV h rfl (Fi _)).trans (by rw[Fl]))
section
variable{S:List Th}{M:List Mk}{dk:List Str}{W:List Wy}{V:List Vk}(d:Dn S M dk W V)
include d
theorem Dn.good2:sk [LD (TT S),MD M,.lst (dk.map D.str),WD W]=some (.bl (G2 (TT S) M dk W)):=by
 have hl:=d.hl;have lm:=d.ml;have lw:=d.wl;have ldk:=d.dl;generalize eT:TT S=T at hl;have hn:∀t∈T,t.n=.str t.m:=eT▸d.hn;let A:Sl:=.im (LD T);let B:Sl:=.im (MD M);let D':Sl:=.im (.lst (dk.map D.str));let X:Sl:=.im (WD W);let R:Sl:=.im (.lst ((rmN T).map D.str));let O:Sl:=.im (.lst ((drs T M).map D.str));let U:Sl:=.un;refine Jx rfl ?_;unfold sj;refine RT.nx (ρ1:=[A,B,D',X,R,U,U,U,U,U]) ((ph (pL (Ar (T:=T) (ρ:=[A,B,D',X,U,U,U,U,U,U]) (i:=0) (by omega) hn rfl))).trans rfl) ?_;let ρ1:List Sl:=[A,B,D',X,R,U,U,U,U,U];have hf:=dP (λt:Tk=>t.k.mk) T;have e1:oT 1 [] (iL (cV 1)) (gN 0) pF (c1 (oH oQ "name") (cV 0)) ρ1=some ((M.map Mk.n).map D.str,ρ1):=(uc mkD (λm=>D.str m.n) M rfl (by omega) λt _=>⟨_,_,rfl,pb rfl (zk t),rfl⟩).trans (by rw[bx];rfl);have e2:oT 1 [] (iL (cV 0)) (gN 0) (cT (c2 (dIn false) (c1 (oH oU "kind") (cV 0)) (cL (oJ (aCons (cS "box") (a1 (cS "lamp"))))))) (c1 (oH oQ "name") (cV 0)) ρ1=some (((T.filter λt=>t.k.mk).map Tk.m).map D.str,ρ1):=by refine(qI tkD Tk.n (λt=>t.k.mk) T (ρ1:=ρ1) rfl (by omega) λt _=>⟨[.im (tkD t)],[.im (tkD t)],rfl,pQ ((oV (x:=.str t.k.s) (y:=.lst ((["box", "lamp"]:List Str).map D.str)) (pb rfl (qB t)) rfl (qb false _ _)).trans (by rw[<-Sy];rfl)),λ_=>⟨_,pb rfl (rD t),rfl⟩,λ_=>rfl⟩).trans ?_;rw[zl _ hn]
 refine RT.nx (ρ1:=[A,B,D',X,R,O,U,U,U,U]) ((ph (pL (qP (pL e1) (pL e2) (by rw[ag,ag,ag,ag];omega)))).trans (by rw[<-bj];rfl)) ?_;let ρ2:List Sl:=[A,B,D',X,R,O,U,U,U,U];have c1':cT (c2 (dEq true) (cL (oT 1 [4] (iL (cV 2)) (gN 0) (cT (c2 (dIn true) (cV 0) (cV 1))) (cV 0))) (cL (oJ pC))) ρ2=some (!dk.all (λx=>decide (x∈rmN T)),ρ2):=by refine(Ce (l:=dk) (p:=λx=>!decide (x∈rmN T)) (pL (qI D.str D.str (λx=>!decide (x∈rmN T)) dk (ρ1:=ρ2) rfl (by omega) λx _=>⟨[.im (.str x),R],[.im (.str x),R],rfl,pQ (oV (x:=.str x) (y:=.lst ((rmN T).map D.str)) rfl rfl (qb true x (rmN T))),λ_=>⟨_,rfl,rfl⟩,λ_=>rfl⟩))).trans ?_;simp only[eO]
 refine RT.if (ρ1:=ρ2) (sy c1' λ_=>sy (pQ (oX (ds:=[.lst (dk.map D.str)]) rfl (Cb dk (by omega)))) λ_=>pQ (oX (ds:=[.lst (W.map prD)]) (oR (pL (uc wyD prD W (ρ1:=ρ2) rfl (by omega) λw _=>⟨[.im (wyD w)],[.im (wyD w)],rfl,rfl,rfl⟩)) rfl) (Qa W (by omega)))) λ_=>?_;refine RT.for wyD (wgB T M) (λρ=>∃s6 s7 s8 s9,ρ=[A,B,D',X,R,O,s6,s7,s8,s9]) W rfl ⟨U,U,U,U,rfl⟩ (λw hw ρ hρ=>?_) λ_ ρ hρ=>?_
 ·obtain⟨s6,s7,s8,s9,rfl⟩:=hρ;let τ:List Sl:=[A,B,D',X,R,O,.im (.str w.r),.im (.str w.w),.im (.str w.g),.im (oS w.m)];have q4:rb (cT (c2 rO (cV 9) (cC D.non))) (cT (c2 (dIn true) (cV 9) (cV 5))) τ=some (dmB (drs T M) w.m,τ):=by
   cases hm:w.m with
   |none=>have z:cT (c2 rO (cV 9) (cC D.non)) τ=some (false,τ):=pQ (oV (x:=oS w.m) (y:=.non) rfl rfl (by rw[hm];rfl));unfold rb;rw[z];rfl
   |some x=>have z:cT (c2 rO (cV 9) (cC D.non)) τ=some (true,τ):=pQ (oV (x:=oS w.m) (y:=.non) rfl rfl (by rw[hm];rfl));unfold rb;rw[z];exact pQ (oV (x:=oS w.m) (y:=.lst ((drs T M).map D.str)) rfl rfl (by rw[hm];exact qb true x (drs T M)))
  obtain⟨i1,i2⟩:=Cd (c:=qK (cT (c2 (dIn true) (cV 6) (cV 4))) (qK (cT (c2 (dIn true) (cV 8) (cV 4))) (qK (cT (c2 (dEq false) (cV 7) (cS "the"))) (rb (cT (c2 rO (cV 9) (cC D.non))) (cT (c2 (dIn true) (cV 9) (cV 5))))))) (ρ:=τ) (sy (pQ (oV (x:=.str w.r) (y:=.lst ((rmN T).map D.str)) (ρ:=τ) (ρ1:=τ) (ρ2:=τ) rfl rfl (qb true w.r (rmN T)))) λ_=>sy (pQ (oV (x:=.str w.g) (y:=.lst ((rmN T).map D.str)) rfl rfl (qb true w.g (rmN T)))) λ_=>sy (pQ (oV (x:=.str w.w) (y:=.str "the") rfl rfl (rh false w.w "the"))) λ_=>q4);refine⟨τ,rfl,λhb=>⟨τ,⟨_,_,_,_,rfl⟩,i1 ?_⟩,λhb=>i2 ?_⟩
  ·unfold wgB at hb;rw[bV]at hb;exact hb
  ·unfold wgB at hb;rw[dS]at hb;exact hb
 obtain⟨s6,s7,s8,s9,rfl⟩:=hρ;exact⟨_,rfl⟩
end
def vgS:FS:=(oK (pd 3 (cL (qa (cL (qa (cV 3) (cL (oJ (a1 (c1 (oH oQ "name") (cV 5))))))) (cL (uF (c1 (oH pR "others") (cV 5)))))))
 (oK (sIf (cT (c2 (dEq false) (c2 vc (c1 (oH pz "joining") (cV 5)) (cC D.non)) (c2 (dEq false) (c1 (oH uI "form") (cV 5)) (cS "two")))) (px (cC (.bl false))) pf)
 (sIf (cT (c2 rO (c1 (oH pz "joining") (cV 5)) (cC D.non))) (qD (vI 4 (c1 (oH pz "joining") (cV 5)))) pf)))
def pv(v:Vk):Bool:=!decide (v.j.isNone=decide (v.f="two"))
def k9w:List Str:=["take", "drop", "open", "shut", "light", "douse", "put", "go", "wait"]
def tld(V:List Vk):List Str:=k9w++V.flatMap Vk.ws
def sml(W:List Wy)(V:List Vk):List Str:=(("in" : Str)::W.map Wy.w)++V.filterMap Vk.j
def bdW:List Str:=["a", "undo", "restart"]
def G3(T:List Tk)(W:List Wy)(V:List Vk):Bool:=V.all pv&&(!(!decide (tld V).Nodup||!(tld V++sml W V).all λx=>!decide (x∈bdW))&&(!(!(sml W V).all λx=>!decide (x∈tld V))&&(T.all (λt=>!(t.k.pl&&!(tw t).all λx=>!decide (x∈tld V++sml W V)))&&true)))
theorem Mw(a b:Bool):dEq false (.bl a) (.bl b)=some (.bl (decide (a=b))):=by cases a<;>cases b<;>rfl
theorem LN{v:Vk}(ho:v.o.length<=1)(A W' V' s6 s5:Sl)(tl sm:List Str)(lt:tl.length<=100)(ls:sm.length<=100):
  (pv v=true->vgS [A,W',V',.im (.lst (tl.map D.str)),.ls (sm.map D.str),.im (vkD v),s6]=some (.nx [A,W',V',.im (.lst ((tl++v.ws).map D.str)),.ls ((sm++v.j.toList).map D.str),.im (vkD v),s6]))/\(pv v=false->∃ρ',vgS [A,W',V',.im (.lst (tl.map D.str)),.ls (sm.map D.str),.im (vkD v),s6]=some (.rt (.bl false) ρ')):=by
 let ρ0:List Sl:=[A,W',V',.im (.lst (tl.map D.str)),.ls (sm.map D.str),.im (vkD v),s6];let ρ:List Sl:=[A,W',V',.im (.lst ((tl++v.ws).map D.str)),.ls (sm.map D.str),.im (vkD v),s6];have lw:v.ws.length<=2:=by unfold Vk.ws;rw[aA];omega
 have e1:pd 3 (cL (qa (cL (qa (cV 3) (cL (oJ (a1 (c1 (oH oQ "name") (cV 5))))))) (cL (uF (c1 (oH pR "others") (cV 5)))))) ρ0=some (.nx ρ):=by refine(ph (pL (qP (xs:=tl.map D.str++[.str v.n]) (ys:=v.o.map D.str) (ρ1:=ρ0) (ρ2:=ρ0) (pL (qP (xs:=tl.map D.str) (ys:=[.str v.n]) (ρ1:=ρ0) rfl rfl (by rw[ag];show _+1<=1000;omega))) rfl (by rw[au,ag,ag];show _+1+_<=1000;omega)))).trans ?_;show some (Out.nx [A,W',V',.im (.lst (tl.map D.str++[.str v.n]++v.o.map D.str)),.ls (sm.map D.str),.im (vkD v),s6])=_;rw[show tl.map D.str++[.str v.n]++v.o.map D.str=(tl++v.ws).map D.str by rw[bj,bJ];rfl]
 have fj:c1 (oH pz "joining") (cV 5) ρ=some (oS v.j,ρ):=pb rfl rfl;have ij:vc (oS v.j) .non=some (.bl v.j.isNone):=by cases v.j<;>rfl
 have e2:cT (c2 (dEq false) (c2 vc (c1 (oH pz "joining") (cV 5)) (cC D.non)) (c2 (dEq false) (c1 (oH uI "form") (cV 5)) (cS "two"))) ρ=some (decide (v.j.isNone=decide (v.f="two")),ρ):=pQ (oV (oV fj rfl ij) (oV (x:=.str v.f) (y:=.str "two") (pb rfl rfl) rfl (rh false v.f "two")) (Mw _ _));unfold vgS;refine⟨λhb=>?_,λhb=>?_⟩
 ·unfold pv at hb;rw[bV]at hb;rw[hb]at e2;refine(oG e1).trans ((Ms e2).trans ?_);have nj:rO (oS v.j) .non=some (.bl v.j.isSome):=by cases v.j<;>rfl
  have e3:cT (c2 rO (c1 (oH pz "joining") (cV 5)) (cC D.non)) ρ=some (v.j.isSome,ρ):=pQ (oV fj rfl nj);cases hj:v.j with
  |none=>rw[hj]at e3;refine(p7 e3).trans ?_;show some (Out.nx ρ)=_;rw[show (none:Option Str).toList=[] from rfl,bH]
  |some x=>rw[hj]at e3 fj;refine(p6 e3).trans ((tW (yw (es0:=sm.map D.str) (es:=sm.map D.str) (ρ1:=ρ) (d:=.str x) rfl fj rfl (by rw[ag];omega))).trans ?_);rw[show (sm++(some x).toList).map D.str=sm.map D.str++[D.str x] by rw[bj];rfl];rfl
 ·unfold pv at hb;rw[dS]at hb;rw[hb]at e2;exact⟨ρ,(oG e1).trans (pZ ((p6 e2).trans rfl))⟩
theorem vgL(A W' V' s6:Sl):∀(l:List Vk) (tl sm:List Str) (s5:Sl),(∀v∈l,v.o.length<=1)->tl.length+2 * l.length<=100->sm.length+l.length<=100->
  (l.all pv=true->∃s',forL (gN 5) vgS (l.map vkD) [A,W',V',.im (.lst (tl.map D.str)),.ls (sm.map D.str),s5,s6]=some (.nx [A,W',V',.im (.lst ((tl++l.flatMap Vk.ws).map D.str)),.ls ((sm++l.filterMap Vk.j).map D.str),s',s6]))/\(l.all pv=false->∃ρ',forL (gN 5) vgS (l.map vkD) [A,W',V',.im (.lst (tl.map D.str)),.ls (sm.map D.str),s5,s6]=some (.rt (.bl false) ρ'))
 |[],tl,sm,s5,_,_,_=>⟨λ_=>⟨s5,by simp only[lr,List.filterMap_nil,bH];rfl⟩,λz=>(by cases z)⟩
 |v::l,tl,sm,s5,ho,lt,ls=>by
  rw[aA]at lt ls;have hv:=ho v aG;obtain⟨h1,h2⟩:=LN hv A W' V' s6 s5 tl sm (by omega) (by omega);have lw:v.ws.length<=2:=by unfold Vk.ws;rw[aA];omega
  have lj:v.j.toList.length<=1:=by cases v.j<;>simp
  rw[aF,cq];cases hb:pv v with
  |false=>obtain⟨ρ',e⟩:=h2 hb;refine⟨λz=>(by cases z),λ_=>⟨ρ',?_⟩⟩;unfold forL;rw[show gN 5 (vkD v) [A,W',V',.im (.lst (tl.map D.str)),.ls (sm.map D.str),s5,s6]=some [A,W',V',.im (.lst (tl.map D.str)),.ls (sm.map D.str),.im (vkD v),s6] from rfl];simp only[e]
  |true=>
   have e:=h1 hb;obtain⟨g1,g2⟩:=vgL A W' V' s6 l (tl++v.ws) (sm++v.j.toList) (.im (vkD v)) (λu hu=>ho u (aH _ hu)) (by rw[au];omega) (by rw[au];omega);rw[de];have st:forL (gN 5) vgS (vkD v::l.map vkD) [A,W',V',.im (.lst (tl.map D.str)),.ls (sm.map D.str),s5,s6]=forL (gN 5) vgS (l.map vkD) [A,W',V',.im (.lst ((tl++v.ws).map D.str)),.ls ((sm++v.j.toList).map D.str),.im (vkD v),s6]:=by
    conv=>lhs;unfold forL
    rw[show gN 5 (vkD v) [A,W',V',.im (.lst (tl.map D.str)),.ls (sm.map D.str),s5,s6]=some [A,W',V',.im (.lst (tl.map D.str)),.ls (sm.map D.str),.im (vkD v),s6] from rfl];simp only[e]
   have ef:(v::l).filterMap Vk.j=v.j.toList++l.filterMap Vk.j:=by
    cases hj:v.j with
    |none=>rw[jK hj];rfl
    |some x=>rw[List.filterMap_cons_some hj];rfl
   rw[st,dA,ef,<- bJ,<- bJ];exact⟨g1,g2⟩
section
variable{S:List Th}{M:List Mk}{dk:List Str}{W:List Wy}{V:List Vk}(d:Dn S M dk W V)
include d
theorem Dn.good3:rZ [LD (TT S),WD W,.lst (V.map vkD)]=some (.bl (G3 (TT S) W V)):=by
 have hl:=d.hl;have lw:=d.wl;have lv:=d.vl;have hw:∀t∈TT S,t.w=.tup ((tw t).map D.str)/\(tw t).length<=4/\pV [t.w]=some (.bl (wNd t)):=d.hw;generalize TT S=T at hl hw;let A:Sl:=.im (LD T);let X:Sl:=.im (WD W);let Z:Sl:=.im (.lst (V.map vkD));let U:Sl:=.un;let K0:Sl:=.im (.lst (k9w.map D.str));have ltd:(tld V).length<=60:=by
  have:∀l:List Vk,(∀v∈l,v.o.length<=1)->(l.flatMap Vk.ws).length<=2 * l.length:=by
   intro l
   induction l with
   |nil=>exact λ_=>aC _
   |cons v l ih=>intro h;have h1:=h v aG;have h2:=ih λu hu=>h u (aH _ hu);rw[dA,au,aA];show (v.n::v.o).length+_<=_;rw[aA];omega
  have:=this V λv hv=>(d.v v hv).ol;unfold tld;rw[au];show 9+_<=60;omega
 have lsm:(sml W V).length<=60:=by have:=jM Vk.j V;unfold sml;rw[au,aA,ag];omega
 have lts:(tld V++sml W V).length<=120:=by rw[au];omega
 refine Jx rfl ?_;unfold rY;refine RT.nx (ρ1:=[A,X,Z,K0,U,U,U]) rfl ?_;refine RT.nx (ρ1:=[A,X,Z,K0,.ls ((("in" : Str)::W.map Wy.w).map D.str),U,U]) ((EL (qP (xs:=[.str "in"]) (ys:=W.map λw=>.str w.w) (ρ1:=[A,X,Z,K0,U,U,U]) (ρ2:=[A,X,Z,K0,U,U,U]) rfl (pL (uc wyD (λw=>.str w.w) W (ρ1:=[A,X,Z,K0,U,U,U]) rfl (by omega) λw _=>⟨[.im (wyD w)],[.im (wyD w)],rfl,rfl,rfl⟩)) (by rw[ag];show 1+_<=1000;omega))).trans (by rw[aF,bx];rfl)) ?_;obtain⟨g1,g2⟩:=vgL A X Z U V k9w (("in" : Str)::W.map Wy.w) U (λv hv=>(d.v v hv).ol) (by show 9+_<=100;omega) (by rw[aA,ag];omega);unfold G3;cases hb:V.all pv with
 |false=>obtain⟨ρ',e⟩:=g2 hb;exact⟨ρ',pZ ((pW rfl).trans e)⟩
 |true=>
  obtain⟨s5,e⟩:=g1 hb;rw[de];let Q:Sl:=.im (.lst ((tld V).map D.str));let Y:Sl:=.ls ((sml W V).map D.str);let Y':Sl:=.im (.lst ((sml W V).map D.str));let ρ:List Sl:=[A,X,Z,Q,Y,s5,U];refine RT.nx (ρ1:=ρ) ((pW rfl).trans e) ?_;let β:List Sl:=ρ.map Sl.bor;have cat:cL (qa (cV 3) (cV 4)) β=some (.lst ((tld V++sml W V).map D.str),β):=(pL (qP (xs:=(tld V).map D.str) (ys:=(sml W V).map D.str) (ρ1:=β) rfl rfl (by rw[ag,ag];omega))).trans (by rw[<-bj]);have ic:iL (cL (qa (cV 3) (cV 4))) β=some ((tld V++sml W V).map D.str,β):=by unfold iL;rw[cat]
  have q1:qK (cT (oP pM (a1 (cV 3)))) (cT (c2 (dEq true) (cL (oT 1 [] (iL (cL (qa (cV 3) (cV 4)))) (gN 0) (cT (c2 (dIn false) (cV 0) (cL (oJ (aCons (cS "a") (aCons (cS "undo") (a1 (cS "restart")))))))) (cV 0))) (cL (oJ pC)))) β=some (!decide (tld V).Nodup||!(tld V++sml W V).all λx=>!decide (x∈bdW),β):=
   sy (pQ (oX (ds:=[.lst ((tld V).map D.str)]) rfl (Cb (tld V) (by omega)))) λ_=>Ce (pL (qI D.str D.str (λx=>decide (x∈bdW)) (tld V++sml W V) ic (by omega) λx _=>⟨[.im (.str x)],[.im (.str x)],rfl,pQ (oV (x:=.str x) (y:=.lst (bdW.map D.str)) rfl rfl (qb false x bdW)),λ_=>⟨_,rfl,rfl⟩,λ_=>rfl⟩))
  refine RT.if (ρ1:=ρ) (BR q1) λ_=>?_;have q2:cT (c2 (dEq true) (cL (oT 1 [3] (iL (cV 4)) (gN 0) (cT (c2 (dIn false) (cV 0) (cV 1))) (cV 0))) (cL (oJ pC))) β=some (!(sml W V).all λx=>!decide (x∈tld V),β):=
   Ce (pL (qI D.str D.str (λx=>decide (x∈tld V)) (sml W V) (ρ1:=β) rfl (by omega) λx _=>⟨[.im (.str x),Q],[.im (.str x),Q],rfl,pQ (oV (x:=.str x) (y:=.lst ((tld V).map D.str)) rfl rfl (qb false x (tld V))),λ_=>⟨_,rfl,rfl⟩,λ_=>rfl⟩))
  refine RT.if (ρ1:=ρ) (BR q2) λ_=>?_;refine RT.for tkD (λt=>!(t.k.pl&&!(tw t).all λx=>!decide (x∈tld V++sml W V))) (λρ=>∃s6,ρ=[A,X,Z,Q,Y,s5,s6]) T rfl ⟨U,rfl⟩ (λt ht ρ hρ=>?_) λ_ ρ hρ=>?_
  ·obtain⟨s6,rfl⟩:=hρ;let τ:List Sl:=[A,X,Z,Q,Y,s5,.im (tkD t)];let γ:List Sl:=τ.map Sl.bor;have it:iT (c1 (oH pj "words") (cV 6)) γ=some ((tw t).map D.str,γ):=by unfold iT;rw[show c1 (oH pj "words") (cV 6) γ=some (.tup ((tw t).map D.str),γ) from pb rfl ((ud t).trans (aX some (hw t ht).1))]
   have q3:cT (c2 (dEq true) (cL (oT 1 [3,4] (iT (c1 (oH pj "words") (cV 6))) (gN 0) (cT (c2 (dIn false) (cV 0) (cL (qa (cV 1) (cV 2))))) (cV 0))) (cL (oJ pC))) γ=some (!(tw t).all λx=>!decide (x∈tld V++sml W V),γ):=
    Ce (pL (qI D.str D.str (λx=>decide (x∈tld V++sml W V)) (tw t) it (by have:=(hw t ht).2.1;omega) λx _=>⟨[.im (.str x),Q,Y'],[.im (.str x),Q,Y'],rfl,pQ (oV (x:=.str x) (y:=.lst ((tld V++sml W V).map D.str)) rfl ((pL (qP (xs:=(tld V).map D.str) (ys:=(sml W V).map D.str) (ρ1:=[.im (.str x),Q,Y']) rfl rfl (by rw[ag,ag];omega))).trans (by rw[<-bj])) (qb false x _)),λ_=>⟨_,rfl,rfl⟩,λ_=>rfl⟩))
   have q4:=BR (ρ:=τ) (AB (ρ:=γ) (pQ ((oV (x:=.str t.k.s) (y:=.lst ((["room", "you"]:List Str).map D.str)) (ρ:=γ) (ρ1:=γ) (ρ2:=γ) (e:=c1 (oH oU "kind") (cV 6)) (e':=cL (oJ (aCons (cS "room") (a1 (cS "you"))))) (pb rfl (qB t)) rfl (qb true _ _)).trans (by rw[ah rfl,R0]))) λ_=>q3);obtain⟨i1,i2⟩:=Cd q4;refine⟨τ,rfl,λhb=>⟨τ,⟨_,rfl⟩,i1 ?_⟩,λhb=>i2 ?_⟩
   ·rw[bV]at hb;exact hb
   ·rw[dS]at hb;exact hb
  obtain⟨s6,rfl⟩:=hρ;exact⟨_,rfl⟩
end
theorem LO:((nmL++mnL).all λx=>nmB x==!decide (x∈bdN))=true:=by kernel_rfl
theorem LP:(wwL.all λx=>isT (p8 [.str x])==!decide (x="the"))=true:=by kernel_rfl
theorem Mx:((vnL++voL).all λx=>(decide (x∈bdW)||nmB x)&&!decide (x="the"))=true:=by kernel_rfl
theorem Qd:((k9w++(["in"]:List Str)).all λx=>!decide (x="the"))=true:=by kernel_rfl
theorem LQ{m:List Str}:apB l m=true ↔ ∀x∈l,x∉m:=by
 unfold apB;rw[bV,gq,Ne,cN];constructor
 ·intro h x hx hm;exact h ⟨x,hx,aO hm⟩
 ·rintro h ⟨x,hx,e⟩;exact h x hx (bC e)
theorem Cf{m:List Str}:(l.all λx=>!decide (x∈m))=true ↔ ∀x∈l,x∉m:=by rw[aD];exact forall_congr' λx=>forall_congr' λ_=>by simp
section
variable{S:List Th}{M:List Mk}{dk:List Str}{W:List Wy}{V:List Vk}(d:Dn S M dk W V)
include d
theorem Dn.names_same:(aN (TT S) M).all nmB=(aN (TT S) M).all λx=>!decide (x∈bdN):=wo λx hx=>by have:=aD.mp LO x (d.ht x hx);exact beq_iff_eq.mp this
theorem Dn.ways_same:W.all (wyB (TT S) M)=W.all (wgB (TT S) M):=wo λw hw=>by
 have e:=beq_iff_eq.mp (aD.mp LP w.w (d.w w hw));unfold wyB wB wgB;rw[e];show (decide (w.r∈rmN (TT S))&&(!decide (w.w="the")&&(decide (w.g∈rmN (TT S))&&(vv (oS w.m)||isIn (oS w.m) (mkN (TT S) M)))))=_;have em:(vv (oS w.m)||isIn (oS w.m) (mkN (TT S) M))=!(dmB (drs (TT S) M) w.m):=by
  cases w.m with
  |none=>rfl
  |some x=>show (false||decide (x∈mkN (TT S) M))=!!decide (x∈drs (TT S) M);rw[l5,eO];exact decide_eq_decide.mpr (by unfold mkN drs;rw[aV,aV];exact Or.comm)
 rw[em];generalize (dmB (drs (TT S) M) w.m)=q;generalize decide (w.r∈rmN (TT S))=a;generalize decide (w.w="the")=b;generalize decide (w.g∈rmN (TT S))=c;cases a<;>cases b<;>cases c<;>cases q<;>rfl
theorem Dn.verbs_same(hw:∀w∈W,w.w≠"the"):(V.all vbB&&Jk ((plN (TT S)).flatMap tw) ((V++k9).flatMap Vk.ws) (jsN (V++k9)++W.map Wy.w))=G3 (TT S) W V:=by
 have mU:∀x,x∈(V++k9).flatMap Vk.ws ↔ x∈tld V:=λx=>by unfold tld;rw[kr,aV,aV,show k9.flatMap Vk.ws=k9w from rfl];exact Or.comm
 have mB:∀x,x∈jsN (V++k9)++W.map Wy.w ↔ x∈sml W V:=λx=>by
  unfold jsN sml;rw[ir,aV,aV,aV,aP,show k9.filterMap Vk.j=(["in"]:List Str) from rfl,bb];constructor
  ·rintro((h|h)|h)
   ·exact .inr h
   ·exact .inl (.inl h)
   ·exact .inl (.inr h)
  ·rintro((h|h)|h)
   ·exact .inl (.inr h)
   ·exact .inr h
   ·exact .inl (.inl h)
 have nU:((V++k9).flatMap Vk.ws).Nodup ↔ (tld V).Nodup:=by
  have:((V++k9).flatMap Vk.ws).Perm (tld V):=by unfold tld;rw[kr,show k9.flatMap Vk.ws=k9w from rfl];exact List.perm_append_comm
  exact this.nodup_iff
 have vw:∀v∈V,∀x∈v.ws,x∈vnL++voL:=λv hv x hx=>by
  rcases aP.mp hx with rfl|hx
  ·exact bI _ (d.v v hv).n
  ·exact bh _ ((d.v v hv).o x hx)
 have pvv:∀v:Vk,(decide (v.f="two")==v.j.isSome)=pv v:=λv=>by unfold pv;cases v.j<;>cases decide (v.f="two")<;>rfl
 have noT:∀x∈tld V++sml W V,x≠"the" := λx hx=>by
  rcases aV.mp hx with hx|hx
  ·rcases aV.mp hx with hx|hx
   ·have:=aD.mp Qd x (bI _ hx);simpa using this
   ·obtain⟨v,hv,hx⟩:=fH.mp hx;have:=aD.mp Mx x (vw v hv x hx);rw[aE]at this;simpa using this.2
  ·rcases aV.mp hx with hx|hx
   ·rcases aP.mp hx with rfl|hx
    ·decide
    ·obtain⟨w,h,rfl⟩:=aI.mp hx;exact hw w h
   ·obtain⟨v,hv,e⟩:=dR.mp hx;have hj:=(d.v v hv).j;rw[e]at hj;exact λz=>(show ∀o∈jL,o≠some ("the" : Str) by decide) _ hj (by rw[z])
 rw[bS];unfold G3 Jk;simp only[aE,bV,fi,dS,LQ,Cf,bc,ja];constructor
 ·rintro⟨h1,h2,h3,h4,h5⟩;refine⟨aD.mpr λv hv=>?_,⟨nU.mp h2,λx hx z=>?_⟩,λx hx z=>h5 x ((mB x).mpr hx) ((mU x).mpr z),aD.mpr λt ht=>?_⟩
  ·have:=aD.mp h1 v hv;unfold vbB at this;rw[aE,pvv]at this;exact this.2
  ·refine h4 x ?_ ((show ∀x∈bdW,x∈nwL by decide) x z);rcases aV.mp hx with hx|hx
   ·exact bI _ ((mU x).mpr hx)
   ·exact bh _ ((mB x).mpr hx)
  ·cases hp:t.k.pl with
   |false=>rfl
   |true=>
    rw[de,eO,Cf];intro x hx z;refine h3 x ?_ (fH.mpr ⟨t,bu.mpr ⟨ht,hp⟩,hx⟩);rcases aV.mp z with z|z
    ·exact bI _ ((mU x).mpr z)
    ·exact bh _ ((mB x).mpr z)
 ·rintro⟨h1,⟨h2,h3⟩,h4,h5⟩;have mUB:∀x,x∈(V++k9).flatMap Vk.ws++(jsN (V++k9)++W.map Wy.w)->x∈tld V++sml W V:=λx hx=>by
   rcases aV.mp hx with hx|hx
   ·exact bI _ ((mU x).mp hx)
   ·exact bh _ ((mB x).mp hx)
  refine⟨aD.mpr λv hv=>?_,nU.mpr h2,λx hx z=>?_,λx hx z=>?_,λx hx z=>h4 x ((mB x).mp hx) ((mU x).mp z)⟩
  ·have ok:∀x∈v.ws,nmB x=true:=λx hx=>by
    have q:=aD.mp Mx x (vw v hv x hx);rw[aE,gy,bc]at q;rcases q.1 with q|q
    ·exact ao q (h3 x (bI _ (bh _ (fH.mpr ⟨v,hv,hx⟩))))
    ·exact q
   unfold vbB;rw[pvv,aD.mp h1 v hv,ok v.n aG,aD.mpr λx hx=>ok x (aH _ hx)];rfl
  ·obtain⟨t,ht,hx'⟩:=fH.mp z;obtain⟨ht,hp⟩:=bu.mp ht;have q:=aD.mp h5 t ht;have hp:t.k.pl=true:=hp;rw[hp,de,eO,Cf]at q;exact q x hx' (mUB x hx)
  ·have hx':=mUB x hx;have:x="the" \/ x∈bdW:=(show ∀x∈nwL,x="the" \/ x∈bdW by decide) x z;rcases this with e|e
   ·exact noT x hx' e
   ·exact h3 x hx' e
theorem Dn.same:PB (TT S) M dk W V=((G1 (TT S) M&&G2 (TT S) M dk W)&&G3 (TT S) W V):=by
 have nu:∀w∈W,wgB (TT S) M w=true->w.w≠"the" := λw _ h z=>by unfold wgB at h;rw[aO z]at h;simp at h
 cases hw:W.all (wgB (TT S) M)with
 |false=>
  have e1:G2 (TT S) M dk W=false:=by unfold G2;rw[hw];simp
  have e2:PB (TT S) M dk W V=false:=by unfold PB;rw[d.ways_same,hw];simp
  rw[e1,e2];simp
 |true=>
  have v:=d.verbs_same λw h=>nu w h (aD.mp hw w h);unfold PB G1 G2 kB;rw[d.ways_same,hw,d.names_same,v];generalize G3 (TT S) W V=g;generalize decide ((1:Int)<=cK .room (TT S))=a1;generalize decide ((cK .room (TT S):Int)<=5)=a2;generalize decide ((cK .you (TT S):Int)=1)=a3;generalize M.all mOk=a4;generalize ((aN (TT S) M).all λx=>!decide (x∈bdN))=a5;generalize decide (aN (TT S) M).Nodup=a6;generalize ((TT S).all (stB (TT S))&&(TT S).all (rc (TT S) (TT S).length))=a7;generalize (TT S).all wNd=a8;generalize (plN (TT S)).all (taB hA (plN (TT S)))=a9;generalize (dk.all λx=>decide (x∈rmN (TT S)))=b1;generalize decide dk.Nodup=b2;generalize decide (W.map pk2).Nodup=b3;rw[bS];simp only[aE,bV,fi,dS,de,ja];constructor
  ·rintro⟨⟨⟨h1,h2⟩,h3⟩,h4,⟨h5,h6⟩,h7,⟨h8,h9⟩,⟨i1,i2⟩,i3,hg⟩;exact⟨⟨⟨⟨h6,h5⟩,⟨h3,⟨h1,h2⟩,h7⟩,h8,h9,h4⟩,i1,i2,i3⟩,hg⟩
  ·rintro⟨⟨⟨⟨h6,h5⟩,⟨h3,⟨h1,h2⟩,h7⟩,h8,h9,h4⟩,i1,i2,i3⟩,hg⟩;exact⟨⟨⟨h1,h2⟩,h3⟩,h4,⟨h5,h6⟩,h7,⟨h8,h9⟩,⟨i1,i2⟩,i3,hg⟩
end
theorem zp(ns:List Int)(k:Nat):∃c,pS [.fzl (ns.map D.int),.int k]=some (.int c):=by
 let ρ:List Sl:=[.im (.fzl (ns.map D.int)),.im (.int k)];have ev:cT (c2 KH (cV 1) (c1 rG (cV 0))) ρ=some (decide ((k:Int)<((ns.map D.int).length:Nat)),ρ):=rfl;rw[ag]at ev;by_cases h:k<ns.length
 ·rw[aO (by omega)]at ev;refine⟨ns[k],pX (ρ:=ρ) rfl (pZ ((p6 ev).trans (qf (oV (x:=.fzl (ns.map D.int)) (y:=.int k) rfl rfl ?_))))⟩;exact uT (by rw[aY,aQ h];rfl)
 ·rw[aU (by omega)]at ev;exact⟨0,pX (ρ:=ρ) rfl ((oG ((p7 ev).trans rfl)).trans rfl)⟩
theorem zq{g:List L4.D->List L4.D->Option (L4.D×List L4.D)}{a n:FA}{ns:List L4.D}{d:L4.D}(h1:a ρ=some (ds,ρ1))(h2:n ρ1=some (ns,ρ2))(h3:g ns ds=some (d,es)):cMutT g a n ρ=some (d,ρ2):=by unfold cMutT;rw[h1];simp only[h2,h3]
theorem Bq(s0 s1 s2 s3 s4 s6 s7 s8:Sl):∀(l:List Nat) (es:List L4.D),qG es->∃(dk:List Str) (es':List L4.D),dk.length=l.length/\qG es'/\
  sE 1 [5] (gN 0) pF (pJ oO 1 (aCons (cL (oJ (a1 (cS "hall")))) (a1 (cL (oJ (aCons (cS "cave") (aCons (cS "case") (a1 (cS "me"))))))))) (l.map λk:Nat=>D.int (k:Nat)) [s0,s1,s2,s3,s4,.ls es,s6,s7,s8]=some (dk.map D.str,[s0,s1,s2,s3,s4,.ls es',s6,s7,s8])
 |[],es,h=>⟨[],es,rfl,h,rfl⟩
 |k::l,es,h=>by obtain⟨d,e1,hd,x1,h1⟩:=smx (i:=1) (P:=[.str "hall"]) (Q:=(["cave", "case", "me"]:List Str).map D.str) (a:=aCons (cL (oJ (a1 (cS "hall")))) (a1 (cL (oJ (aCons (cS "cave") (aCons (cS "case") (a1 (cS "me")))))))) (λes=>[.im (.int (k:Nat)),.pm es]) (λ_=>rfl) (λ_ _=>rfl) rfl h (by intro z;cases z) (by intro z;cases z) (aL rfl) (aL rfl);obtain⟨y,_,rfl⟩:=ya (l:=["hall", "cave", "case", "me"]) hd;obtain⟨dk,e2,eL,h2,x2⟩:=Bq s0 s1 s2 s3 s4 s6 s7 s8 l e1 h1;refine⟨y::dk,e2,by rw[aA,aA,eL],h2,?_⟩;rw[aF,aF];exact zm (ρ1:=[.im (.int (k:Nat)),.pm es]) (ρ2:=[.im (.int (k:Nat)),.pm es]) rfl rfl x1 rfl x2
theorem Qe(ns:List Int)(hl:ns.length<=63):Mn [.fzl (ns.map D.int)]=some (.bl true):=by
 obtain⟨c0,e0⟩:=zp ns 0;obtain⟨c1',e1⟩:=zp ns 1;obtain⟨c2',e2⟩:=zp ns 2;obtain⟨c3',e3⟩:=zp ns 3;obtain⟨S',es1,tOk,tl,xt⟩:=Gm (es:=[.int c0]) (.inl ⟨c0,rfl⟩);rw[RG]at xt;obtain⟨M,es2,mOk,ml,xm⟩:=Je (es:=[.int c1']) (.inl ⟨c1',rfl⟩);obtain⟨W,es3,wOk,wl,xw⟩:=LB (es:=[.int c2']) (.inl ⟨c2',rfl⟩);obtain⟨V,es4,vOk,vl,xv⟩:=Jg (es:=[.int c3']) (.inl ⟨c3',rfl⟩);let S:Sl:=.im (.fzl (ns.map D.int));let A:Sl:=.im (LD (TT S'));let B:Sl:=.im (MD M);let X:Sl:=.im (WD W);let Y:Sl:=.im (.lst (V.map vkD));let U:Sl:=.un;obtain⟨dg,es5,x5,p0,p1,h5⟩:=dgx (i:=5) (b:=6) (a:=cC (.int 6)) (es:=[.int (c3'+1)]) (λes=>[S,A,B,X,Y,.ls es,U,U,U]) (λ_=>rfl) (λ_ _=>rfl) rfl (.inl ⟨c3'+1,rfl⟩) (by decide) (by decide);obtain⟨n,rfl⟩:=cZ p0;obtain⟨dk,es6,eL,h6,x6⟩:=Bq S A B X Y U U U (aT (n / 2)) es5 h5;have dl:dk.length<=3:=by rw[eL,bK];omega
 have d:Dn S' M dk W V:=⟨tOk,tl,mOk,ml,dl,wOk,wl,vOk,vl⟩;let E:Sl:=.ls es6;let K:Sl:=.im (.lst (dk.map D.str));let G:Bool:=(G1 (TT S') M&&G2 (TT S') M dk W)&&G3 (TT S') W V;let Z:Sl:=.im (.bl G);have fin:∀Q:Sl,cV 8 [S,A,B,X,Y,E,K,Z,Q]=some (.bl G,[S,A,B,X,Y,E,K,Z,Q])->px (c2 (dEq false) (cV 8) (cV 7)) [S,A,B,X,Y,E,K,Z,Q]=some (.rt (.bl true) [S,A,B,X,Y,E,K,Z,Q]):=λQ h=>qf ((oV (y:=.bl G) h rfl (Mw G G)).trans (by rw[aO rfl]));have cell:∀(k:Nat) {c:Int} (ρ:List Sl),cV 0 ρ=some (.fzl (ns.map D.int),ρ)->pS [.fzl (ns.map D.int),.int k]=some (.int c)->oJ (a1 (oP pS (aCons (cV 0) (a1 (cC (.int k)))))) ρ=some ([.int c],ρ):=λk c ρ h e=>yu (oR (oX (ds:=[.fzl (ns.map D.int),.int k]) (oR h rfl) e) rfl) (aL rfl);have pre:∀{o:Out},(oK (sTry qA (aCons (cV 1) (aCons (cV 2) (aCons (cV 6) (aCons (cV 3) (aCons (cV 4) (a1 (cL (oJ pC)))))))) (pd 8 (cC (.bl false)))) (px (c2 (dEq false) (cV 8) (cV 7)))) [S,A,B,X,Y,E,K,Z,.im (.bl true)]=some o->Dj [S,U,U,U,U,U,U,U,U]=some o:=λ{o} q=>by unfold Dj;refine(oG (ρ':=[S,A,U,U,U,U,U,U,U]) ((ph (zq (ρ1:=[S,U,U,U,U,U,U,U,U]) (ds:=[]) rfl (cell 0 _ rfl e0) xt)).trans rfl)).trans ?_;refine(oG (ρ':=[S,A,B,U,U,U,U,U,U]) ((ph (zq (ρ1:=[S,A,U,U,U,U,U,U,U]) (ds:=[]) rfl (cell 1 _ rfl e1) xm)).trans rfl)).trans ?_;refine(oG (ρ':=[S,A,B,X,U,U,U,U,U]) ((ph (zq (ρ1:=[S,A,B,U,U,U,U,U,U]) (ds:=[]) rfl (cell 2 _ rfl e2) xw)).trans rfl)).trans ?_;refine(oG (ρ':=[S,A,B,X,Y,U,U,U,U]) ((ph (zq (ρ1:=[S,A,B,X,U,U,U,U,U]) (ds:=[]) rfl (cell 3 _ rfl e3) xv)).trans rfl)).trans ?_;refine(oG (ρ':=[S,A,B,X,Y,.ls [.int (c3'+1)],U,U,U]) ((EL (yu (oR (oV (x:=.int c3') (y:=.int 1) (oX (ds:=[.fzl (ns.map D.int),.int 3]) (ρ1:=[S,A,B,X,Y,U,U,U,U]) rfl e3) rfl rfl) rfl) (aL rfl))).trans rfl)).trans ?_;refine(oG (ρ':=[S,A,B,X,Y,E,K,U,U]) ((ph (pL ((wz (Bj (n:=n / 2) (ρ1:=[S,A,B,X,Y,.ls es5,U,U,U]) ((oV (x:=.int (n:Nat)) (y:=.int 2) x5 rfl (div_pos (by decide) (by decide))).trans (by rw[show ((n / 2:Nat):Int)=(n:Int) / 2 from rfl])) (by omega)) (by rw[ag,bK];omega)).trans x6))).trans rfl)).trans ?_;let ρ7:List Sl:=[S,A,B,X,Y,E,K,U,U];refine(oG (ρ':=[S,A,B,X,Y,E,K,.im (.bl (G1 (TT S') M&&G2 (TT S') M dk W)),U]) ((ph (Jv (ρ:=ρ7) (oX (ds:=[LD (TT S'),MD M]) rfl d.good1) λ_=>oX (ds:=[LD (TT S'),MD M,.lst (dk.map D.str),WD W]) rfl d.good2)).trans rfl)).trans ?_;refine(oG (ρ':=[S,A,B,X,Y,E,K,Z,U]) ((ph (Jv (ρ:=[S,A,B,X,Y,E,K,.im (.bl (G1 (TT S') M&&G2 (TT S') M dk W)),U]) (a:=G1 (TT S') M&&G2 (TT S') M dk W) rfl λ_=>oX (ds:=[LD (TT S'),WD W,.lst (V.map vkD)]) rfl d.good3)).trans rfl)).trans ?_;exact(oG (ρ':=[S,A,B,X,Y,E,K,Z,.im (.bl true)]) rfl).trans q
 have ta:(aCons (cV 1) (aCons (cV 2) (aCons (cV 6) (aCons (cV 3) (aCons (cV 4) (a1 (cL (oJ pC)))))))) [S,A,B,X,Y,E,K,Z,.im (.bl true)]=some ([LD (TT S'),MD M,.lst (dk.map D.str),WD W,.lst (V.map vkD),.lst []],[S,A,B,X,Y,E,K,Z,.im (.bl true)]):=by kernel_rfl
 cases hP:PB (TT S') M dk W V with
 |true=>obtain⟨q,e⟩:=d.world hP;have hG:G=true:=d.same.symm.trans hP;refine pX (ρ:=[S,A,B,X,Y,E,K,Z,.im (.bl true)]) rfl (pre ?_);refine(oG (ρ':=[S,A,B,X,Y,E,K,Z,.im (.bl true)]) ?_).trans (fin (.im (.bl true)) (by rw[hG];rfl));unfold sTry;rw[ta];simp only[e]
 |false=>have e:=d.no hP;have hG:G=false:=d.same.symm.trans hP;refine pX (ρ:=[S,A,B,X,Y,E,K,Z,.im (.bl false)]) rfl (pre ?_);refine(oG (ρ':=[S,A,B,X,Y,E,K,Z,.im (.bl false)]) ?_).trans (fin (.im (.bl false)) (by rw[hG];rfl));unfold sTry;rw[ta];simp only[e];rfl
end K10x
namespace K10x
open PySem L2 L3 L4
open PySem.W (nsIn)
structure Fx(K:ak)(C0 C1 C2 C3 C4 C5 C6 C7 C8 C9 C10 C11 C12 C13 C14 C15:Addr):Prop where
 a0:nsIn K aK "Thing" = some (some (.ref C0))
 a1:nsIn K aK "Mark" = some (some (.ref C1))
 a2:nsIn K aK "Verb" = some (some (.ref C2))
 a3:nsIn K aK "At" = some (some (.ref C3))
 a4:nsIn K aK "Has" = some (some (.ref C4))
 a5:nsIn K aK "Seen" = some (some (.ref C5))
 a6:nsIn K aK "Marked" = some (some (.ref C6))
 a7:nsIn K aK "Kind" = some (some (.ref C7))
 a8:nsIn K aK "Word" = some (some (.ref C8))
 a9:nsIn K aK "Not" = some (some (.ref C9))
 a10:nsIn K aK "Both" = some (some (.ref C10))
 a11:nsIn K aK "Move" = some (some (.ref C11))
 a12:nsIn K aK "Put" = some (some (.ref C12))
 a13:nsIn K aK "Rule" = some (some (.ref C13))
 a14:nsIn K aK "World" = some (some (.ref C14))
 k0:CF K C0 ["kind", "name", "start", "words"]
 k1:CF K C1 ["most", "name", "start"]
 k2:CF K C2 ["form", "joining", "name", "others"]
 k3:CF K C3 ["place", "term"]
 k4:CF K C4 ["term"]
 k5:CF K C5 []
 k6:CF K C6 ["term", "value"]
 k7:CF K C7 ["kind", "term"]
 k8:CF K C8 ["word"]
 k9:CF K C9 ["inner"]
 k10:CF K C10 []
 k11:CF K C11 ["place", "term"]
 k12:CF K C12 ["term", "value"]
 k13:CF K C13 ["verb", "deeds", "refuses", "tests", "text"]
 k14:CF K C14 ["copied_rules", "kept_things", "kept_verbs", "shared_rules", "shared_verbs", "your_name", "kept_dark", "kept_marks", "kept_rules", "kept_ways", "mosts_by_name", "rules_by_verb", "things_by_name", "verbs_by_word"]
 ax:nsIn K aK "NoWorld" = some (some (.ref C15))
 xx:XC K C15
 i_Mark:xO K [C0,C1,C2,C3,C4,C5,C6,C7,C8,C9,C10,C11,C12,C13,C14] C1 1=true
 i_Thing:xO K [C0,C1,C2,C3,C4,C5,C6,C7,C8,C9,C10,C11,C12,C13,C14] C0 0=true
 i_Verb:xO K [C0,C1,C2,C3,C4,C5,C6,C7,C8,C9,C10,C11,C12,C13,C14] C2 2=true
 nd:decide ([C0,C1,C2,C3,C4,C5,C6,C7,C8,C9,C10,C11,C12,C13,C14]:List Addr).Nodup=true
 e:((["all", "any", "bool", "int", "isinstance", "len", "list", "range", "set", "str", "tuple"]:List Str).all λx=>match nsIn K aK x with|some none=>true|_=>false)=true
 g0:GS K "FORMS" ["alone", "one", "two", "way"]
 g1:GS K "KINDS" ["room", "plain", "fixed", "box", "lamp", "you"]
 g2:GS K "KINDS_APART" ["room", "you"]
 g3:GS K "KINDS_THAT_HOLD" ["room", "box", "you"]
 g4:GS K "KINDS_WITH_MARK" ["box", "lamp"]
 g5:GC K "MOST_BESIDE" 7
 g6:GC K "MOST_IN_NAME" 8
 g7:GC K "MOST_IN_WORD" 12
 g8:GC K "MOST_MARKS" 4
 g9:GC K "MOST_OF_MARK" 3
 g10:GC K "MOST_ROOMS" 5
 g11:GC K "MOST_RULES" 20
 g12:GC K "MOST_VERBS" 6
 g13:GC K "MOST_WAYS" 10
 g14:GC K "MOST_WORDS" 4
 g15:GS K "NO_NAMES" ["it", "other", "here", "the", "a", "undo", "restart"]
 g16:GS K "NO_WORDS" ["the", "a"]
 g17:GS K "NO_WORDS_OF_ROWS" ["the", "a", "undo", "restart"]
 q18:GD K "is_small_letters" (top 18)
 q19:GD K "is_name" (top 19)
 q20:GD K "is_word" (top 20)
 q21:GD K "is_one_of" (top 22)
 q22:GD K "is_whole" (top 23)
 q23:GD K "is_list_up_to" (top 24)
 q24:GD K "own_list" (top 96)
 q25:GJ K C0 "Thing.__init__" (inClass (top 10) 0) [V.non]
 q26:GM K C1 "__init__" "Mark.__init__" (inClass (top 11) 0)
 q27:GJ K C2 "Verb.__init__" (inClass (top 12) 0) [V.non,(V.str "one"),V.non]
 q28:GM K C3 "__init__" "At.__init__" (inClass (top 73) 0)
 q29:GM K C4 "__init__" "Has.__init__" (inClass (top 74) 0)
 q30:GM K C6 "__init__" "Marked.__init__" (inClass (top 76) 0)
 q31:GM K C7 "__init__" "Kind.__init__" (inClass (top 77) 0)
 q32:GM K C8 "__init__" "Word.__init__" (inClass (top 78) 0)
 q33:GM K C9 "__init__" "Not.__init__" (inClass (top 80) 0)
 q34:GM K C11 "__init__" "Move.__init__" (inClass (top 87) 0)
 q35:GM K C12 "__init__" "Put.__init__" (inClass (top 88) 0)
 q36:GJ K C13 "Rule.__init__" (inClass (top 95) 0) [(V.bl false)]
 q37:GM K C0 "can_hold" "Thing.can_hold" (inClass (top 10) 1)
 q38:GM K C0 "has_mark" "Thing.has_mark" (inClass (top 10) 2)
 q39:GM K C0 "is_plainly" "Thing.is_plainly" (inClass (top 10) 3)
 q40:GD K "refuse_unless" (top 34)
 q41:GD K "count_of" (top 37)
 q42:GD K "plain_ones" (top 38)
 q43:GD K "is_mark" (top 40)
 q44:GD K "check_things" (top 36)
 q45:GD K "check_marks" (top 39)
 q46:GD K "are_unlike" (top 42)
 q47:GD K "check_names" (top 41)
 q48:GD K "mark_names" (top 43)
 q49:GD K "is_start" (top 45)
 q50:GD K "comes_to_room" (top 46)
 q51:GD K "check_starts" (top 44)
 q52:GD K "are_words" (top 48)
 q53:GD K "has_all" (top 50)
 q54:GD K "is_told_apart" (top 49)
 q55:GD K "check_words_of_things" (top 47)
 q56:GD K "check_dark" (top 51)
 q57:GD K "is_way" (top 53)
 q58:GD K "check_ways" (top 52)
 q59:GD K "is_verb" (top 55)
 q60:GD K "check_verbs" (top 54)
 q61:GD K "are_apart" (top 57)
 q62:GD K "check_vocabulary" (top 56)
 q63:GD K "check_parts" (top 35)
 q64:GD K "does" (top 119)
 q65:GD K "refuses" (top 120)
 q66:GD K "hand_rules" (top 121)
 q67:GD K "put_rules" (top 122)
 q68:GD K "lid_rules" (top 123)
 q69:GD K "flame_rules" (top 124)
 q70:GD K "way_tests" (top 126)
 q71:GD K "go_rules" (top 125)
 q72:GD K "wait_rules" (top 127)
 q73:GD K "common_rules" (top 118)
 q74:GD K "common_verbs" (top 117)
 q75:GD K "by_name" (top 131)
 q76:GD K "mosts_by_name" (top 132)
 q77:GD K "verbs_by_word" (top 133)
 q78:GD K "by_verb" (top 134)
 q79:GM K C14 "of_kind" "World.of_kind" (inClass (top 130) 3)
 q80:GM K C14 "all_verbs" "World.all_verbs" (inClass (top 130) 13)
 q81:GM K C14 "__init__" "World.__init__" (inClass (top 130) 0)
 q82:GD K "_law_cell_at" (top 136)
 q83:GD K "_law_digit" (top 137)
 q84:GD K "_law_some" (top 138)
 q85:GD K "_law_things" (top 139)
 q86:GD K "_law_marks" (top 140)
 q87:GD K "_law_ways" (top 141)
 q88:GD K "_law_verbs" (top 142)
 q89:GD K "_law_twice" (top 143)
 q90:GD K "_law_starts" (top 144)
 q91:GD K "_law_things_good" (top 145)
 q92:GD K "_law_ways_good" (top 146)
 q93:GD K "_law_verbs_good" (top 147)
 q94:GD K "law" (top 148)
class Yx(B:Bz):Prop where
 y:Yw B.P B.w B.mg B.base B.G
 f:Fx B.G.K (B.G.ca 0) (B.G.ca 1) (B.G.ca 2) (B.G.ca 3) (B.G.ca 4) (B.G.ca 5) (B.G.ca 6) (B.G.ca 7) (B.G.ca 8) (B.G.ca 9) (B.G.ca 10) (B.G.ca 11) (B.G.ca 12) (B.G.ca 13) (B.G.ca 14) (B.G.ca 15)
section
variable{B:Bz}[Y:Yx B]
instance:Yb B:=⟨Y.y⟩
instance:Nb B "all" := ⟨Y.y.n Y.f.e 0 rfl⟩
instance:Nb B "any" := ⟨Y.y.n Y.f.e 1 rfl⟩
instance:Nb B "bool" := ⟨Y.y.n Y.f.e 2 rfl⟩
instance:Nb B "int" := ⟨Y.y.n Y.f.e 3 rfl⟩
instance:Nb B "isinstance" := ⟨Y.y.n Y.f.e 4 rfl⟩
instance:Nb B "len" := ⟨Y.y.n Y.f.e 5 rfl⟩
instance:Nb B "list" := ⟨Y.y.n Y.f.e 6 rfl⟩
instance:Nb B "range" := ⟨Y.y.n Y.f.e 7 rfl⟩
instance:Nb B "set" := ⟨Y.y.n Y.f.e 8 rfl⟩
instance:Nb B "str" := ⟨Y.y.n Y.f.e 9 rfl⟩
instance:Nb B "tuple" := ⟨Y.y.n Y.f.e 10 rfl⟩
instance:Co B "FORMS" E5:=⟨Y.y.cs Y.f.g0⟩
instance:Co B "KINDS" B5:=⟨Y.y.cs Y.f.g1⟩
instance:Co B "KINDS_APART" wX:=⟨Y.y.cs Y.f.g2⟩
instance:Co B "KINDS_THAT_HOLD" tX:=⟨Y.y.cs Y.f.g3⟩
instance:Co B "KINDS_WITH_MARK" tY:=⟨Y.y.cs Y.f.g4⟩
instance:Co B "MOST_BESIDE" uh:=⟨Y.y.ci Y.f.g5⟩
instance:Co B "MOST_IN_NAME" vW:=⟨Y.y.ci Y.f.g6⟩
instance:Co B "MOST_IN_WORD" vX:=⟨Y.y.ci Y.f.g7⟩
instance:Co B "MOST_MARKS" xR:=⟨Y.y.ci Y.f.g8⟩
instance:Co B "MOST_OF_MARK" vY:=⟨Y.y.ci Y.f.g9⟩
instance:Co B "MOST_ROOMS" xQ:=⟨Y.y.ci Y.f.g10⟩
instance:Co B "MOST_RULES" xT:=⟨Y.y.ci Y.f.g11⟩
instance:Co B "MOST_VERBS" vh:=⟨Y.y.ci Y.f.g12⟩
instance:Co B "MOST_WAYS" tZ:=⟨Y.y.ci Y.f.g13⟩
instance:Co B "MOST_WORDS" xS:=⟨Y.y.ci Y.f.g14⟩
instance:Co B "NO_NAMES" Ah:=⟨Y.y.cs Y.f.g15⟩
instance:Co B "NO_WORDS" Ai:=⟨Y.y.cs Y.f.g16⟩
instance:Co B "NO_WORDS_OF_ROWS" qw:=⟨Y.y.cs Y.f.g17⟩
instance:Ff B uH "copied_rules" := ⟨wL (Y.f.k14.at 0 rfl)⟩
instance:Ff B uI "form" := ⟨wL (Y.f.k2.at 0 rfl)⟩
instance:Ff B pz "joining" := ⟨wL (Y.f.k2.at 1 rfl)⟩
instance:Ff B vA "kept_things" := ⟨wL (Y.f.k14.at 1 rfl)⟩
instance:Ff B vV "kept_verbs" := ⟨wL (Y.f.k14.at 2 rfl)⟩
instance:Ff B oU "kind" := ⟨orQ (wL (Y.f.k0.at 0 rfl)) (Y.f.k7.at 0 rfl)⟩
instance:Ff B rg "most" := ⟨wL (Y.f.k1.at 0 rfl)⟩
instance:Ff B oQ "name" := ⟨orQ (orQ (wL (Y.f.k0.at 1 rfl)) (Y.f.k1.at 1 rfl)) (Y.f.k2.at 2 rfl)⟩
instance:Ff B pR "others" := ⟨wL (Y.f.k2.at 3 rfl)⟩
instance:Ff B uJ "shared_rules" := ⟨wL (Y.f.k14.at 3 rfl)⟩
instance:Ff B uK "shared_verbs" := ⟨wL (Y.f.k14.at 4 rfl)⟩
instance:Ff B oY "start" := ⟨orQ (wL (Y.f.k0.at 2 rfl)) (Y.f.k1.at 2 rfl)⟩
instance:Ff B tH "verb" := ⟨wL (Y.f.k13.at 0 rfl)⟩
instance:Ff B pj "words" := ⟨wL (Y.f.k0.at 3 rfl)⟩
instance:Ff B wW "your_name" := ⟨wL (Y.f.k14.at 5 rfl)⟩
instance:Af B 0 ["kind", "name", "start", "words"]:=⟨Y.f.k0⟩
instance:Af B 1 ["most", "name", "start"]:=⟨Y.f.k1⟩
instance:Af B 2 ["form", "joining", "name", "others"]:=⟨Y.f.k2⟩
instance:Af B 3 ["place", "term"]:=⟨Y.f.k3⟩
instance:Af B 4 ["term"]:=⟨Y.f.k4⟩
instance:Af B 6 ["term", "value"]:=⟨Y.f.k6⟩
instance:Af B 7 ["kind", "term"]:=⟨Y.f.k7⟩
instance:Af B 8 ["word"]:=⟨Y.f.k8⟩
instance:Af B 9 ["inner"]:=⟨Y.f.k9⟩
instance:Af B 11 ["place", "term"]:=⟨Y.f.k11⟩
instance:Af B 12 ["term", "value"]:=⟨Y.f.k12⟩
instance:Af B 13 ["verb", "deeds", "refuses", "tests", "text"]:=⟨Y.f.k13⟩
instance:Af B 14 ["copied_rules", "kept_things", "kept_verbs", "shared_rules", "shared_verbs", "your_name", "kept_dark", "kept_marks", "kept_rules", "kept_ways", "mosts_by_name", "rules_by_verb", "things_by_name", "verbs_by_word"]:=⟨Y.f.k14⟩
instance:Ic B "Mark" IW:=⟨1,yx Y.f.i_Mark rfl (II 15 _) (D4.at ⟨Y.f.k0.ci,Y.f.k1.ci,Y.f.k2.ci,Y.f.k3.ci,Y.f.k4.ci,Y.f.k5.ci,Y.f.k6.ci,Y.f.k7.ci,Y.f.k8.ci,Y.f.k9.ci,Y.f.k10.ci,Y.f.k11.ci,Y.f.k12.ci,Y.f.k13.ci,Y.f.k14.ci,trivial⟩),Y.y.g Y.f.a1⟩
instance:Ic B "Thing" E4:=⟨0,yx Y.f.i_Thing rfl (II 15 _) (D4.at ⟨Y.f.k0.ci,Y.f.k1.ci,Y.f.k2.ci,Y.f.k3.ci,Y.f.k4.ci,Y.f.k5.ci,Y.f.k6.ci,Y.f.k7.ci,Y.f.k8.ci,Y.f.k9.ci,Y.f.k10.ci,Y.f.k11.ci,Y.f.k12.ci,Y.f.k13.ci,Y.f.k14.ci,trivial⟩),Y.y.g Y.f.a0⟩
instance:Ic B "Verb" IY:=⟨2,yx Y.f.i_Verb rfl (II 15 _) (D4.at ⟨Y.f.k0.ci,Y.f.k1.ci,Y.f.k2.ci,Y.f.k3.ci,Y.f.k4.ci,Y.f.k5.ci,Y.f.k6.ci,Y.f.k7.ci,Y.f.k8.ci,Y.f.k9.ci,Y.f.k10.ci,Y.f.k11.ci,Y.f.k12.ci,Y.f.k13.ci,Y.f.k14.ci,trivial⟩),Y.y.g Y.f.a2⟩
instance:Xn B "NoWorld" 15:=⟨Y.f.xx,Y.y.g Y.f.ax⟩
instance:Ij B 15:=⟨Sn Y.f.nd⟩
local macro_rules|`(tactic|trivial)=>do let x:=("zr_l2I zr_alE zr_alT zr_nnT zr_cnK zr_xC zr_xI zr_xR zr_xU zr_yI zr_y1 zr_y0 zr_tI zr_mq1 Rk Rj Rl Rm IH Rr OA O4 Ro Oy Pa O3 Of Og O5 O7 O1 OE OW OH Pb On Oq Os Ot Oj O8 Rt Pc Ol OC Pe Pg O6 Pr OB Oz Ox Oe OM ON Rp Pi Ov Ow Pt Ou Ru Rv OQ Oh Oi OR Om Po Pp Pq Pf Ph Pj Rq OF OG Pk Pl OS OJ OK Px OT OU OV Pm Pn Lg Lf Lh OX OY OZ OL OO zr_xeI OP PF PH Pd zr_xsI Pu Pw Le O9".splitOn " ").toArray.map fun s=>Lean.mkIdent (.mkSimple s);`(tactic|repeat' first|(with_reducible apply eqI);(first|rfl|kernel_rfl)|((with_reducible first|apply O2|apply zr_cpM);rotate_left 7;rfl)|(with_reducible first $[|apply $x]*)|(with_reducible intro _)|exact lF)
instance:Df B 1 "is_small_letters" (spF B.G rp):=gF4 rfl Y.f.q18 rfl (by unfold tI;trivial)
instance:Df B 2 "is_name" (spF B.G sg):=gF4 rfl Y.f.q19 rfl (by unfold A8;trivial)
instance:Df B 2 "is_word" (spF B.G p8):=gF4 rfl Y.f.q20 rfl (by unfold A9;trivial)
instance:Df B 1 "is_one_of" (spF B.G pq):=gF4 rfl Y.f.q21 rfl (by unfold yQ;trivial)
instance:Df B 1 "is_whole" (spF B.G xb):=gF4 rfl Y.f.q22 rfl (by unfold Aj;trivial)
instance:Df B 1 "is_list_up_to" (spF B.G pH):=gF4 rfl Y.f.q23 rfl (by unfold vC;trivial)
instance:Df B 1 "own_list" (spF B.G xc):=gF4 rfl Y.f.q24 rfl (by unfold Ak;trivial)
instance:Kf B 1 "Thing" 0 rR []:=gJ4 (dds:=[D.non]) Y.f.k0 Y.f.a0 rfl Y.f.q25 rfl rfl (by unfold xU;trivial) 1
instance:Kf B 1 "Mark" 1 vZ []:=gI4 Y.f.k1 Y.f.a1 rfl Y.f.q26 rfl rfl (by unfold yR;trivial)
theorem vx:Bdz B (nmO (inClass (top 12) 0)) "Verb.__init__" (inClass (top 12) 0) (pA (inClass (top 12) 0)) 0 v5:=by
 unfold v5;refine IH ?_ ?_
 all_goals trivial
instance:Kf B 1 "Verb" 2 qk [D.non,(D.str "one"),D.non]:=gJ4 (dds:=[D.non,(D.str "one"),D.non]) Y.f.k2 Y.f.a2 rfl Y.f.q27 rfl rfl vx 0
instance:Kf B 1 "Verb" 2 qk [D.non]:=gJ4 (dds:=[D.non,(D.str "one"),D.non]) Y.f.k2 Y.f.a2 rfl Y.f.q27 rfl rfl vx 2
instance:Kf B 1 "Verb" 2 qk []:=gJ4 (dds:=[D.non,(D.str "one"),D.non]) Y.f.k2 Y.f.a2 rfl Y.f.q27 rfl rfl vx 3
instance:Kf B 1 "At" 3 yy []:=gI4 Y.f.k3 Y.f.a3 rfl Y.f.q28 rfl rfl (by unfold Ba;trivial)
instance:Kf B 1 "Has" 4 xf []:=gI4 Y.f.k4 Y.f.a4 rfl Y.f.q29 rfl rfl (by unfold Al;trivial)
instance:Kf B 1 "Marked" 6 qm []:=gI4 Y.f.k6 Y.f.a6 rfl Y.f.q30 rfl rfl (by unfold wY;trivial)
instance:Kf B 1 "Kind" 7 qR []:=gI4 Y.f.k7 Y.f.a7 rfl Y.f.q31 rfl rfl (by unfold yS;trivial)
instance:Kf B 1 "Word" 8 yU []:=gI4 Y.f.k8 Y.f.a8 rfl Y.f.q32 rfl rfl (by unfold yT;trivial)
instance:Kf B 1 "Not" 9 qS []:=gI4 Y.f.k9 Y.f.a9 rfl Y.f.q33 rfl rfl (by unfold Am;trivial)
instance:Kf B 1 "Move" 11 sI []:=gI4 Y.f.k11 Y.f.a11 rfl Y.f.q34 rfl rfl (by unfold yV;trivial)
instance:Kf B 1 "Put" 12 tJ []:=gI4 Y.f.k12 Y.f.a12 rfl Y.f.q35 rfl rfl (by unfold An;trivial)
instance:Kf B 2 "Rule" 13 v7 []:=gJ4 (dds:=[(D.bl false)]) Y.f.k13 Y.f.a13 rfl Y.f.q36 rfl rfl (by unfold yW;trivial) 1
instance:Mf B 9 "can_hold" qT:=⟨λc h e=>by
 unfold qT at e;split at e
 ·cases e;exact hF4 (k:=8) Y.f.k0 rfl Y.f.q37 rfl (by unfold uL;trivial)
 ·cases e⟩
instance:Mf B 9 "has_mark" qq:=⟨λc h e=>by
 unfold qq at e;split at e
 ·cases e;exact hF4 (k:=8) Y.f.k0 rfl Y.f.q38 rfl (by unfold uN;trivial)
 ·cases e⟩
instance:Mf B 9 "is_plainly" sh:=⟨λc h e=>by
 unfold sh at e;split at e
 ·cases e;exact hF4 (k:=8) Y.f.k0 rfl Y.f.q39 rfl (by unfold tK;trivial)
 ·cases e⟩
instance:Dx B 1 "refuse_unless" 15 oI:=gX4 rfl Y.f.q40 rfl (by unfold vE;trivial)
instance:Df B 1 "count_of" (spF B.G tN):=gF4 rfl Y.f.q41 rfl (by unfold Ao;trivial)
instance:Df B 10 "plain_ones" (spN B.G qx):=gN4 rfl Y.f.q42 rfl (by unfold xV;trivial)
instance:Df B 2 "is_mark" (spF B.G wG):=gF4 rfl Y.f.q43 rfl (by unfold Bb;trivial)
instance:Dx B 11 "check_things" 15 tQ:=gX4 rfl Y.f.q44 rfl (by unfold tP;trivial)
instance:Dx B 3 "check_marks" 15 uj:=gX4 rfl Y.f.q45 rfl (by unfold ui;trivial)
instance:Df B 1 "are_unlike" (spF B.G pK):=gF4 rfl Y.f.q46 rfl (by unfold xW;trivial)
instance:Dx B 3 "check_names" 15 uo:=gX4 rfl Y.f.q47 rfl (by unfold um;trivial)
instance:Df B 10 "mark_names" (spN B.G sV):=gN4 rfl Y.f.q48 rfl (by unfold xX;trivial)
instance:Df B 10 "is_start" (spF B.G xh):=gF4 rfl Y.f.q49 rfl (by unfold xg;trivial)
instance:Df B 1 "comes_to_room" (spF B.G pU):=gF4 rfl Y.f.q50 rfl (by unfold vF;trivial)
instance:Dx B 11 "check_starts" 15 qV:=gX5 ["things", "starts", "thing"] rfl Y.f.q51 rfl (by unfold qU;trivial)
instance:Df B 3 "are_words" (spF B.G pV):=gF4 rfl Y.f.q52 rfl (by unfold yX;trivial)
instance:Df B 1 "has_all" (spF B.G tp):=gF4 rfl Y.f.q53 rfl (by unfold Bc;trivial)
instance:Df B 2 "is_told_apart" (spF B.G qH):=gF4 rfl Y.f.q54 rfl (by unfold sL;trivial)
instance:Dx B 11 "check_words_of_things" 15 pP:=gX4 rfl Y.f.q55 rfl (by unfold pO;trivial)
instance:Dx B 2 "check_dark" 15 qY:=gX4 rfl Y.f.q56 rfl (by unfold sX;trivial)
instance:Df B 3 "is_way" (spF B.G rS):=gF4 rfl Y.f.q57 rfl (by unfold Ap;trivial)
instance:Dx B 4 "check_ways" 15 rV:=gX4 rfl Y.f.q58 rfl (by unfold rT;trivial)
instance:Df B 3 "is_verb" (spF B.G rF):=gF4 rfl Y.f.q59 rfl (by unfold Bd;trivial)
instance:Dx B 4 "check_verbs" 15 sr:=gX4 rfl Y.f.q60 rfl (by unfold sq;trivial)
instance:Df B 1 "are_apart" (spF B.G pY):=gF4 rfl Y.f.q61 rfl (by unfold yY;trivial)
instance:Dx B 11 "check_vocabulary" 15 rq:=gX4 rfl Y.f.q62 rfl (by unfold qy;trivial)
instance:Dx B 12 "check_parts" 15 ur:=gX4 rfl Y.f.q63 rfl (by unfold uq;trivial)
instance:Df B 4 "does" (spF B.G tR):=gF4 rfl Y.f.q64 rfl (by unfold IZ;trivial)
instance:Df B 4 "refuses" (spF B.G pT):=gF4 rfl Y.f.q65 rfl (by unfold Be;trivial)
instance:Df B 5 "hand_rules" (spN B.G vm):=gN4 rfl Y.f.q66 rfl (by unfold xY;trivial)
instance:Df B 5 "put_rules" (spN B.G v8):=gN4 rfl Y.f.q67 rfl (by unfold yZ;trivial)
instance:Df B 5 "lid_rules" (spN B.G wa):=gN4 rfl Y.f.q68 rfl (by unfold y1;trivial)
instance:Df B 5 "flame_rules" (spN B.G uu):=gN4 rfl Y.f.q69 rfl (by unfold wZ;trivial)
instance:Df B 3 "way_tests" (spN B.G wb):=gN4 rfl Y.f.q70 rfl (by unfold y3;trivial)
instance:Df B 5 "go_rules" (spN B.G xj):=gN4 rfl Y.f.q71 rfl (by unfold xi;trivial)
instance:Df B 5 "wait_rules" (spN B.G x8):=gN4 rfl Y.f.q72 rfl (by unfold xZ;trivial)
instance:Df B 6 "common_rules" (spN B.G tS):=gN4 rfl Y.f.q73 rfl (by unfold wc;trivial)
instance:Df B 3 "common_verbs" (spN B.G rW):=gN4 rfl Y.f.q74 rfl (by unfold wd;trivial)
instance:Df B 1 "by_name" (spF B.G yA):=gF4 rfl Y.f.q75 rfl (by unfold yz;trivial)
instance:Df B 10 "mosts_by_name" (spF B.G sN):=gF4 rfl Y.f.q76 rfl (by unfold sM;trivial)
instance:Df B 1 "verbs_by_word" (spF B.G sP):=gF4 rfl Y.f.q77 rfl (by unfold sO;trivial)
instance:Df B 1 "by_verb" (spF B.G yB):=gF4 rfl Y.f.q78 rfl (by unfold Bf;refine⟨Gb (stW (by kernel_rfl) Cu rfl) (GH lF rfl (CM (CA B.G.K (DK (pvI (by kernel_rfl))))) (pgI (by kernel_rfl)) (zd (Bu (Hh B.G.K fE iG kD yi (Iq (pvI (by kernel_rfl)) (HB (DK (pvI (by kernel_rfl))) (Ff.p (B:=B))) (GR uS) ⟨rfl,rfl,rfl,rfl⟩) (rH (pvI (by kernel_rfl)) uS))))) (Dp (PE.ghost (pvI (by kernel_rfl))))⟩)
instance:Mf B 9 "of_kind" uv:=⟨λc h e=>by
 unfold uv at e;split at e
 ·cases e;exact hF4 (k:=8) Y.f.k14 rfl Y.f.q79 rfl (by unfold vG;trivial)
 ·cases e⟩
instance:Mf B 9 "all_verbs" sR:=⟨λc h e=>by
 unfold sR at e;split at e
 ·cases e;exact hF4 (k:=8) Y.f.k14 rfl Y.f.q80 rfl (by unfold ua;trivial)
 ·cases e⟩
instance:Kx B 13 "World" 14 15 qA:=gXI4 Y.f.k14 Y.f.a14 rfl Y.f.q81 rfl rfl (by unfold qz;trivial)
instance:Df B 1 "_law_cell_at" (spF B.G pS):=gF4 rfl Y.f.q82 rfl (by unfold we;trivial)
instance:Df B 1 "_law_digit" (spM B.G o5):=gM4 rfl Y.f.q83 rfl rfl (by unfold sY;trivial)
instance:Df B 2 "_law_some" (spM B.G oO):=gM4 rfl Y.f.q84 rfl rfl (by unfold ub;trivial)
instance:Df B 3 "_law_things" (spM B.G ux):=gM4 rfl Y.f.q85 rfl rfl (by unfold su;trivial)
instance:Df B 3 "_law_marks" (spM B.G vp):=gM4 rfl Y.f.q86 rfl rfl (by unfold vo;trivial)
instance:Df B 3 "_law_ways" (spM B.G wm):=gM4 rfl Y.f.q87 rfl rfl (by unfold wg;trivial)
instance:Df B 3 "_law_verbs" (spM B.G vt):=gM4 rfl Y.f.q88 rfl rfl (by unfold vq;trivial)
instance:Df B 1 "_law_twice" (spF B.G pM):=gF4 rfl Y.f.q89 rfl (by unfold x9;trivial)
instance:Df B 1 "_law_starts" (spF B.G uy):=gF4 rfl Y.f.q90 rfl (by unfold sv;trivial)
instance:Df B 2 "_law_things_good" (spF B.G rB):=gF5 ["_law_things_here", "_law_marks_here", "_law_names", "_law_kinds", "_law_plain", "_law_thing", "_law_other"] rfl Y.f.q91 rfl (by unfold rA;trivial)
instance:Df B 2 "_law_ways_good" (spF B.G sk):=gF5 ["_law_things_here", "_law_marks_here", "_law_dark", "_law_ways_here", "_law_rooms", "_law_doors", "_law_room", "_law_word", "_law_goal", "_law_mark"] rfl Y.f.q92 rfl (by unfold sj;trivial)
instance:Df B 2 "_law_verbs_good" (spF B.G rZ):=gF4 rfl Y.f.q93 rfl (by unfold rY;trivial)
theorem Jy:Bdz B (nmO (top 148)) "law" (top 148) (pA (top 148)) 14 Dj:=by
 unfold Dj;refine IH ?_ ?_
 all_goals trivial
end
end K10x
namespace K10x
open PySem L2 L3 L4
def Fm(K:ak):Sp:=λvs H Q _=>∃(a:Addr) (ns:List Int),vs=[.ref a]/\SqL K H a (ns.map V.int)/\ns.length<=63/\∀H',Q (.bl true) H'
theorem Br{G:Bg}{H:Hp}:∀ns:List Int,oN G H (ns.map D.int) (ns.map V.int)
 |[]=>pB
 |n::ns=>pI (qo n) (Br ns)
theorem LR{G:Bg}:∀vs H Q E,Fm G.K vs H Q E->spF G Mn vs H Q E:=λvs H Q E h=>by obtain⟨a,ns,rfl,hs,hl,k⟩:=h;refine⟨H,[.fzl (ns.map D.int)],.bl true,oW.refl _,pI (by unfold L4.Rep;exact⟨a,_,rfl,hs,Br ns⟩) pB,Qe ns hl,λv H0' H' _ _ _ _ r=>?_⟩;unfold L4.Rep at r;subst r;exact k H'
section
variable{K:ak}{x m q:Str}{st:Stmt}{f C:Addr}{oc:aa}{od:Option Addr}{kV doc pm:aa}{an:Option Addr}{cdv ct:aa}{osl:Array (Option aa)}
theorem Jz(lk:K.lookup f=some ⟨oc,od,.func (dq x q (rK st) (pA st) (o4 st) .none kV doc pm an cdv ct),osl⟩)(hc:eR K cdv q=true)(kp:cH K (.ref f)=true):∃fd,Fun K x q st f fd:=⟨_,⟨_,_,_,_,_,_,_,_,_,rfl,lk,hc⟩,kp⟩
theorem gd_mk(h:eV K aK x=some (some (.ref f)))(lk:K.lookup f=some ⟨oc,od,.func (dq x x (rK st) (pA st) (o4 st) .none kV doc pm an cdv ct),osl⟩)(hc:eR K cdv x=true)(kp:cH K (.ref f)=true):GD K x st:=⟨f,(Jz lk hc kp).imp λ_ F=>⟨h,F⟩⟩
theorem gm_mk(h:cu K (.ref C) m=some (some (.ref f)))(hf:hX K (.ref f)=true)(lk:K.lookup f=some ⟨oc,od,.func (dq m q (rK st) (pA st) (o4 st) .none kV doc pm an cdv ct),osl⟩)(hc:eR K cdv q=true)(kp:cH K (.ref f)=true):GM K C m q st:=⟨f,(Jz lk hc kp).imp λ_ F=>⟨h,hf,F⟩⟩
end
theorem all_mk{l:fS}{w:aq}{K:ak}{h:Heap}{mg:Str->Option aa}{fa:Addr}(X:K.In h)(Gn:h.Ns aK mg)(hfa:mg "law" = some (.ref fa)){C0 C1 C2 C3 C4 C5 C6 C7 C8 C9 C10 C11 C12 C13 C14 C15:Addr}(F:Fx K C0 C1 C2 C3 C4 C5 C6 C7 C8 C9 C10 C11 C12 C13 C14 C15):
  ∃fd:bA,(∀(s:ae) (v:aa),eS s fd ⟨[v],[]⟩ [("_law_script", v)])/\∀base:Heap,K.In base->base.Ns aK mg->rJ l.prog w K mg base CX0 15 fa fd ["_law_script"] (Fm K):=by
 have gen:∃B:Bg,B.K=K/\B.ca 0=C0/\B.ca 1=C1/\B.ca 2=C2/\B.ca 3=C3/\B.ca 4=C4/\B.ca 5=C5/\B.ca 6=C6/\B.ca 7=C7/\B.ca 8=C8/\B.ca 9=C9/\B.ca 10=C10/\B.ca 11=C11/\B.ca 12=C12/\B.ca 13=C13/\B.ca 14=C14/\B.ca 15=C15:=⟨⟨K,λc=>[C0,C1,C2,C3,C4,C5,C6,C7,C8,C9,C10,C11,C12,C13,C14,C15].getD c 0⟩,rfl,rfl,rfl,rfl,rfl,rfl,rfl,rfl,rfl,rfl,rfl,rfl,rfl,rfl,rfl,rfl,rfl⟩;obtain⟨B,rfl,rfl,rfl,rfl,rfl,rfl,rfl,rfl,rfl,rfl,rfl,rfl,rfl,rfl,rfl,rfl,rfl⟩:=gen;have Z:∀base,Yx ⟨l.prog,w,mg,base,B⟩:=λbase=>⟨⟨h,X,Gn⟩,F⟩;obtain⟨f,fd,a,FF⟩:=F.q94;have e:=hfa.symm.trans (hU X Gn a);cases e;obtain⟨oc,od,kV,doc,pm,an,cdv,ct,osl,rfl,lk,hcd⟩:=FF.ex;exact⟨_,λs v=>.of_eq rfl,λbase _ _=>(HV rfl rfl rfl FF (okk (N:=nmO (top 148)) (ps:=["_law_script"]) (np:=1) (n:=9) (by kernel_rfl)).1 ((@Jy _ (Z base)).ok rfl _)).imp (LR (G:=B))⟩
theorem walk{l:fS}{q:ar}{loose:List Str}{XP:(Str->Option aa)->Heap->Prop}{YP:aq->Heap->Prop}{d:DefRec}{K:fW->ak}(hn:l.most=some 63)(hdf:d.params.defaults=[])
  (hY:∀(w:aq) (h:Heap),YP w h->(K w.params).In h)
  (F:∀(w:aq) (mg:Str->Option aa) (fa:Addr) (h:Heap),(K w.params).In h->h.Ns aK mg->mg d.name=some (.ref fa)->
   ∃fd:bA,(∀(s:ae) (u:aa),eS s fd ⟨[u],[]⟩ [("_law_script", u)])/\∀base:Heap,(K w.params).In base->base.Ns aK mg->rJ l.prog w (K w.params) mg base CX0 15 fa fd ["_law_script"] (Fm (K w.params))):
  W.WalkO q loose XP YP l.row.toRowW d [] (λf vs=>jx f vs):=
 L2.J2 (n:=63) (k:=15) (x:="_law_script") (CX:=λ_=>CX0) (sp:=λw=>Fm (K w.params)) hn (by decide) hdf ⟨rfl,by decide,by decide⟩ hY F (λ_ _ a ns hl _ hS=>⟨a,ns,rfl,hS,hl,λ_=>rfl⟩) λ_ _ _ _ _ z=>z
end K10x
set_option maxHeartbeats 0
open PySem PySem.W PyProof.Rows
theorem PySem.Challenge.cw_tellworld_k10_whole_worlds_let_by_holds : PySem.Challenge.rw_tellworld_k10_whole_worlds_let_by.Holds := by
 refine hd ?_
 k_fill
 refine K10x.walk (l:=PySem.Challenge.rw_tellworld_k10_whole_worlds_let_by) rfl rfl (λw h Y=>Y) ?F
 case F=>
  intro w mg fa h KX G hmg;refine' K10x.all_mk KX G hmg ?Q
  case Q=>
   constructor
   all_goals as_aux_lemma=>first
   |k_is
   |kernel_rfl
   |(show W.excIn _ _ _ _=true;first|k_exc|k_is|kernel_rfl)
   |exact⟨⟨⟨by k_is,by k_is,by k_is,by k_is⟩,by k_is,by k_is,by k_is,by k_is⟩,by k_is,by k_is,by kernel_rfl⟩
   |exact⟨_,by k_is⟩
   |exact K10x.gd_mk (by k_is) (by k_is) (by k_is) (by k_is)
   |exact K10x.gm_mk (by k_is) (by k_is) (by k_is) (by k_is) (by k_is)
   |exact⟨_,_,_,_,by k_is,by k_is,by rfl,by rfl,by simp,by repeat' first|exact .nil|exact .cons rfl .nil|refine .cons rfl ?_⟩
   |exact⟨_,_,_,_,[_],_,by k_is,by k_is,⟨⟨_,_,_,_,_,_,_,_,_,rfl,by k_is,by k_is⟩,by k_is⟩,by k_is,by rfl,.cons (by first|rfl|exact⟨_,rfl⟩) .nil⟩
   |exact⟨_,_,_,_,[_,_,_],_,by k_is,by k_is,⟨⟨_,_,_,_,_,_,_,_,_,rfl,by k_is,by k_is⟩,by k_is⟩,by k_is,by rfl,.cons (by first|rfl|exact⟨_,rfl⟩) (.cons (by first|rfl|exact⟨_,rfl⟩) (.cons (by first|rfl|exact⟨_,rfl⟩) .nil))⟩
end
