import PyProof.Rows.All
import Open.Pieces
import OpenK.KLine
import PySem.Challenge.RW_tellworld_k08_verbs_that_are_none
import Wide.All
import OpenK.AllK
import Wide.FinOn
import PyProof.EqAt
import PyProof.EqKinds
import PyProof.TupleCall
import PyProof.StrWalks
import PyProof.ConsumeWalk
import PyProof.NeKinds
import PyProof.Rows.SetFrom
import KE.KIsAll
import PyProof.WalksMore
import PyProof.TupleKey
import PyProof.DictWalks
import PyProof.Rows.ZipGen
import KE.KDictLaws
import PyProof.DictItems
import KE.KSortTup
import PyProof.TupleOfSeq
import PyProof.Rows.SortStr
import PyProof.Rows.StrInSeq3
import PyProof.TupleIter
import KE.KDictOf
import PyProof.CollectWalk
import PyProof.Rows.SeqMore
set_option genSizeOf false
local macro_rules (kind:=Lean.Parser.Command.declaration)|s=>do
 if s.getPos?.isNone||s[1][1][0].getId.getRoot== `PySem then Lean.Macro.throwUnsupported
 let s:=s.rewriteBottomUp (·.setInfo .none)
 if s[1].getKind∈[``Lean.Parser.Command.definition,``Lean.Parser.Command.abbrev,``Lean.Parser.Command.instance]&&s[0][4].isNone then
  return s.setArg 0 (s[0].setArg 4 (Lean.mkNullNode #[Lean.Syntax.node .none ``Lean.Parser.Command.noncomputable #[Lean.mkAtom "noncomputable"]]))
 return s
set_option compiler.extract_closed false
noncomputable section
open List renaming length_map->ai,all_eq_true->aw,length_append->aB,mem_append_right->aK,getElem?_eq_getElem->aS,mem_cons_self->aH,mem_cons_of_mem->aM,length_cons->aE,mem_append_left->aT,getElem?_eq_some_iff->bo,size_toArray->aQ,mem_map_of_mem->ba,mem_map->aI,getElem?_map->bb,map_cons->aN,mem_singleton->bg,map_append->aY,mem_of_getElem?->bw,mem_append->aZ,mem_cons->aW,length_take->bp,getElem?_set->bE,range->aO,append_assoc->bJ,length_replicate->bX,length_singleton->bY,mem_filter->bz,mem_range->bA,nodup_append->bO,append_nil->bK,any_eq_true->bS,getElem?_append_left->cZ,getElem?_append_right->dr,map_map->bL,filterMap_cons->cM,mem_filterMap->cN,length_drop->cp,getElem?_drop->c6,nil_append->cu,mem_flatMap->cO,length_range->c8,foldl_cons->cP,zip_cons_cons->dw,mem_iff_getElem->dQ,all_cons->cy,length->cg,length_set->dc,lookup_cons->dA,find?_cons->dD,length_nil->dE,lookup->cD,getElem_mem->dS,not_mem_nil->dW,getD_eq_getElem?_getD->fW,length_filter_le->fw,nodup_cons->dY,mem_of_mem_drop->fA,mem_of_mem_take->fB,flatMap_cons->eD,getElem?_replicate->fX,getElem?_set_self->fZ,take_of_length_le->f6,any_cons->d7,getElem?_eq_none->f7,perm_append_singleton->gR,drop_eq_getElem_cons->gU,map_take->eL,length_zip->fL,map_nil->eR,zipWith_cons_cons->gW,getElem?_toArray->gY,take_append_drop->gZ,map_drop->fN,getElem?_set_ne->hE,of_mem_zip->gm,getElem?_range->hJ,getElem_of_mem->hU,zipWith->fQ,all_map->fR,replicate->gn,filter_append->ig,pairwise_iff_getElem->jc,sublist_append_right->je,take_sublist->il,foldl_append->iq,getElem_inj->ir,getElem?_cons_succ->jh,getElem?_cons_zero->ji,filter_cons->ix,drop_eq_nil_of_le->jq,length_pos_of_mem->js,contains_iff_mem->jx,filterMap_append->jz,nodup_nil->iC,pairwise_append->jD,length_zipWith->jG,filter_eq_self->jH,length_pos_iff->jI,map_congr_left->jJ,contains_cons->jP,ext_getElem?->jV,take_add_one->jY,pairwise_map->j1,nodup_range->kc,map_id->iX,zip_append->kj,drop_nil->kI,rec->lA,map->lC
open PySem renaming Value->aa,Shared->ae,wpAny_bind->au,starEach->ar,mainGlobals->aG,wpAny_pure->aD,Program->aq,sizeLine->az,wpAny->af,Around->ay,World->ao,compareOp->aU,Spec->nH,wpAny_mono->br,wpAny_truthy_bool->cn,SetTable->bj,wpAny_Call_Name_kw->dv,FuncData->bu,assignEach->bU,backTo->aX,bootBuiltins->cQ,wpAny_holding->de,sizeLine_eq->cz,swapsWith->b9,sysModules->cE,mem_of_lookup->fC,keywordEach->dh,letOwnedTupleGo->eF,codeAny_builtin->eG,behindInMarks->d5,attributeBase->d6,wpAny_pyIter_list->fE,foldedSetIterable->fF,codeAny->bV,ofAClassStatement->fG,wpAny_setState_of->fI,codeAny_mono->ee,binaryOp->cF,wpAny_execs_nil->fJ,wpAny_passesOwn->fK,NameKind->cU,wpAny_pyIter_tuple->ia,Scope->bW,plainId_quiet->gp,GenState->eA,wpAny_execs_cons->iu,wpAny_forIn_list->iw,Paired->eX,Result->cY,wpAny_isTrue_Compare1->jv,wpAny_eqIsQuiet_tuple->jy,carriedByValue->iB,wpAny_standAt->iF,wpAny_call->gB,tupleKind_room_in1->jO,Within->iI,BindsTo->fi,seqIndex_neg->iN,slot_list_getitem->jX,Keyword->fj,wpAny_storeSet_of->j3,noFill_tuple_add->j6,seqIndex_of->iV,wpAny_specialOf->kg,codeAny_of_tree->kl,wpAny_Name->iZ,wpAny_Expr_any->kr,Operator->gH,PlainAttrs->i4,call_meets->i5,call->i6,wpAny_seqItems->ku,isSubtype_type->kx,boot_len->kz,intBits_le_64->kD,seq_tuple_add->kF,evalPart_none->kG,call_list_seq->kH,CmpOp->eB,Params->fU,SetFound->ja
open Bool renaming and_eq_true->aA,false_ne_true->bf,not_eq_true'->c7,eq_iff_iff->dB,and_false->dF,or_eq_true->dZ,false_eq_true->fD,eq_false_iff->fH,false_and->iA,or_eq_false_iff->jB,not_eq_true->ka,and_true->kN,true_and->kP,rec->i9
open PySem.Heap renaming get?_push_of_some->aJ,lt_size->aF,get?_push_size->bx,size_push->eK,SameBut->eO,get?_update_other->jm,get?_update_self->jw,MadeExcOf->kB,FlyingW->kZ
open Nat renaming le_refl->aC,le_of_ble_eq_true->bI,ne_of_lt->aR,lt_of_lt_of_le->bN,le_trans->bH,zero_le->b8,lt_succ_of_lt->dy,le_of_lt_succ->dR,ble->bD,lt_succ_self->dU,succ_pos->df,lt_irrefl->dG,ble_eq->cR,mod_lt->dJ,le_add_right->gk,min_self->fP,lt_of_le_of_lt->ic,zero_add->gq,le_of_lt->gr,lt_trans->gw,sub_self->gx,eq_of_beq_eq_true->ju,le_succ->gz,add_right_comm->jK,lt_or_eq_of_le->jT,beq->eZ,ne_of_gt->iJ,lt_trichotomy->jZ,le_of_not_lt->j8,min_eq_left->ko,le_of_eq->kR,lt_or_ge->kX,pow_succ->kY
open PySem.W renaming Frag->aj,kia_one->cb,emptyDict->dg,findIn->ck,kitOne->cm,keepIn->cG,instObj->dM,callWith_K->gu,fnOf->dq,codeIn->eY,plainGet_of->iG,plainGet->gA,OpenLaw->fS,hideAll_get->iO,cellsFrom_some->j5,methodObj->iP,hasDictIn->iQ,kitx_list->iR,kitx_dict->iU,of_hideAll->iY,methodCall_KW->kh,lookIn->gK,nsIn->fo,callWith_K0->kE,takerIn->i8,kitx_tuple->kT,mg_of->gO,plainOver->lg,specialIn->lh,isFn->gQ
open Array renaming getElem?_toList->bM,length_toList->bR,getElem?_eq_getElem->du,getD_eq_getD_getElem?->dO,getElem?_eq_some_iff->fV,size_setIfInBounds->jg,toList_filterMap->jt,replicate->iz,forIn_toList->jQ,toList_push->j4,size_map->kA,toList->kQ
open PySem.SetTable renaming below->bq,turns->bB,insertAt->bZ,runEnd->bP,Probe->cj,bits->cf,advance->eE,grown->fM,insertAt_perm->gX,fits->fO,fill->iH,sizeAbove->jU,layClean->j2,slot->kJ,leap->kK,laid->kM,has->kW
open Int renaming eq_ofNat_of_zero_le->cH,emod_lt_of_pos->eC,emod_nonneg->eJ,toNat_natCast->ip
open PySem.SetTable.layClean renaming free->cJ
open Option.some renaming inj->bT,injEq->nD
open PyProof.Rows.F renaming plain_set_update_loop->dP,entry_set_update_loop->fY
open PySem.SetTable.probe renaming go->c9
open False renaming elim->bQ
open Prod renaming fst->bC,snd->dj
open PySem.Builtin.List renaming listTooLong->fq
open Option renaming map_some->dX,getD_none->gj,map_eq_some_iff->jo,getD_some->j9
open PySem.Around renaming under_plainId->fz,under->iK
open PySem.F renaming called_set->dH,slot_list_extend->gb,plainAttrs_list->gd,slot_list_append->ib,slot_dict_setdefault->jr,args_list_extend_2->jA,sub_list_frozenset->jC,excBase_ValueError->jE,entry_list_extend->jF,args_tuple_add_2->jN,type_list_append->jR,type_list_extend->jS,entry_tuple_add->jW,slot_tuple_add->j7,plain_set_new->km,sub_list_set->ky
open PySem.Calls renaming spliced_cons->f9,evalArgs_plain->hG,Name_function_global->jb,spliced_nil->ik,callWith_builtin->jn
open Nat.succ renaming inj->eS
open PySem.SetTable.below renaming go->gf
open List.Sublist renaming refl->gh,append->nq
open PySem.Heap.SameBut renaming update->hX
open PyProof.Rows renaming AllBare->cX,subscriptTail_builtinR->jk,boot_isinstance->kn,IntsAre->fT,Subscript_->i3
open PySem.Obj renaming mapSeq->eU,putSet->i7
open PySem.SeqAt.EqAt renaming of_refs->ie,same->iy,int_str->jL,str_int->jM,tuple_none->mm,tuple_bool->mr,tuple_list->mw,list_tuple->my,none_tuple->mD,bool_tuple->mE,none_bool->mH,bool_none->mI,bool_bool->mL,tuple_int->mM,tuple_str->mO,list_none->mP,list_bool->mQ,none_list->mR,bool_list->mS,int_tuple->mT,str_tuple->mV,none_int->mW,none_str->mX,bool_int->mY,bool_str->mZ,int_none->m4,int_bool->m5,str_none->m6,str_bool->m7,list_int->m8,list_str->m9,int_list->ng,str_list->nh,int_int->nu,str_str->nv
open Classical renaming byContradiction->jd
open PySem.AutoSeq1 renaming wpAny_loadPart'->jf
open LawfulBEq renaming eq_of_beq->eW
open Ne renaming symm->dN
open Sum.inr renaming inj->gy
open PySem.Paired renaming length->iE,snoc->lp
open PySem.SeqAt renaming EqAt->gE
open PySem.Walks renaming list->gG,tuple->lr
open PySem.Code renaming isFrame->iM,frames->lj
open PySem.Moved renaming trans->iW
open PySem.Builtin.Frozenset renaming updateFrom->lD,newClass->lF
open PySem.PassesOwn renaming never->kq
open PySem.SeqAt.RcNeAt renaming lists_lengths->lE,tuples->ni,lists->ny
open PySem.EqNone renaming eq_none_none->lG,eq_none_bool->lI,eq_bool_none->lK,ne_none_none->lN,ne_none_bool->lO,ne_bool_none->lQ,eq_none_int->lY,eq_none_str->lZ,eq_int_none->l3,eq_str_none->l5,ne_none_int->l8,ne_none_str->l9,ne_int_none->md,ne_str_none->mh
open PySem.EqMixed renaming eq_bool_str->lL,eq_str_bool->lM,ne_bool_str->lS,ne_str_bool->lX,eq_int_str->l4,eq_str_int->l7,ne_int_str->mf,ne_str_int->mi
open PySem.Value renaming isStrOf->kC,isInt->lb
open PySem.SeqAt.RcAt renaming lists_lengths->mj,tuples->nE,lists->nF
open PySem.Builtin.Range renaming rangeSize->ml
open PySem.Pv renaming boot_list->kU,boot_int->lu
open List.Pairwise renaming sublist->mG
open Prod.mk renaming inj->la
open PySem.Heap.IsSliceOf renaming new->nt
open PySem.W.WShape renaming has->ly
open PySem.Within renaming cons->nz
open PySem.Heap.DictOf renaming new->nG
def ag:=@if_pos
def ah:=@if_neg
def ak:=@absurd
def bc:=@decide_eq_true
def bh:=@decide_eq_false
def bF:=@decide_eq_true_eq
def bG:=@of_decide_eq_true
def aL:=@congrArg
set_option Elab.async false
set_option linter.all false
namespace L5
open PySem PySem.W
noncomputable def pick(l:List Obj):Nat->List Addr->List Obj:=
 @lA Obj (λ_=>Nat->List Addr->List Obj) (λ_ _=>[])
  (λo _ ih i as=>@lA Addr (λ_=>List Obj) [] (λa r _=>@i9 (λ_=>List Obj) (ih (Nat.succ i) as) (o::ih (Nat.succ i) r) (eZ a i)) as) l
theorem En(i:Nat)(as:List Addr):pick [] i as=[]:=rfl
theorem GL(o:Obj)(l:List Obj)(i:Nat)(r:List Addr):pick (o::l) i (i::r)=o::pick l (i+1) r:=by show @i9 (λ_=>List Obj) _ _ (eZ i i)=_;rw[Nat.beq_refl];rfl
theorem GN(o:Obj)(l:List Obj)(i a:Nat)(r:List Addr)(h:a≠i):pick (o::l) i (a::r)=pick l (i+1) (a::r):=by
 show @i9 (λ_=>List Obj) _ _ (eZ a i)=_;have:eZ a i=false:=by
  cases q:eZ a i with
  |false=>rfl
  |true=>exact ak (ju q) h
 rw[this];rfl
theorem zD:∀(l:List Obj) (i:Nat) (as:List Addr),(pick l i as).length=as.length->∀j (hj:j<as.length),∃b,as[j]=i+b/\l[b]?=(pick l i as)[j]?
 |[],i,as,h,j,hj=>by rw[En]at h;simp at h;omega
 |o::l,i,[],h,j,hj=>by simp at hj
 |o::l,i,a::r,h,j,hj=>by
  by_cases q:a=i
  ·subst q;rw[GL]at h ⊢;cases j with
   |zero=>exact⟨0,rfl,rfl⟩
   |succ j=>obtain⟨b,e1,e2⟩:=zD l (a+1) r (by simpa using h) j (by simpa using hj);exact⟨b+1,by rw[List.getElem_cons_succ,e1];exact jK a 1 b,by simpa using e2⟩
  ·rw[GN _ _ _ _ _ q]at h ⊢;obtain⟨b,e1,e2⟩:=zD l (i+1) (a::r) h j hj;exact⟨b+1,by rw[e1];exact jK i 1 b,by simpa using e2⟩
def live(o:Obj):Bool:=match o with|⟨_,_,.freed,_⟩=>false|_=>true
theorem GO{h:Heap}{as:List Addr}{K:Frag}(e:as=K.map (·.1))(x:(pick h.objs.toList 0 as,K.all λp=>live p.2)=(K.map (·.2),true)):K.In h:=by
 obtain⟨x1,x2⟩:=la x;refine Frag.in_of e (jV λj=>?_);rw[bb,bb];by_cases hj:j<as.length
 ·have hl:(pick h.objs.toList 0 as).length=as.length:=by rw[x1,e,ai,ai]
  obtain⟨b,e1,e2⟩:=zD _ _ _ hl j hj;have hk:j<K.length:=by rw[e,ai]at hj;exact hj
  rw[aS hj,aS hk,dX,dX,e1,gq];have e3:h.objs[b]?=some (K[j].2):=by rw[<-bM,e2,x1,bb,aS hk];rfl
  have lv:live K[j].2=true:=aw.mp x2 _ (dS hk);refine aL some ?_;unfold Heap.get?;rw[e3];revert lv;cases K[j].2 with
  |mk c d data sl=>cases data<;>intro lv<;>first|rfl|cases lv
 ·rw[f7 (by omega),f7 (by rw[e,ai]at hj;omega)];rfl
noncomputable def Np(K:fU->Frag) (as:List Addr) (e:∀P,as=(K P).map (·.1)):Hook:=
 ⟨List Obj×Bool,λs=>(pick s.heap.objs.toList 0 as,true),λw=>((K w.params).map (·.2),(K w.params).all λp=>live p.2),InK K,λw s x=>GO (e w.params) (by
  obtain⟨x1,x2⟩:=la x;rw[x1,<- x2]),InK.keeps⟩
end L5
section
open PySem PySem.W PyProof.Rows
local macro_rules|`(tactic|o_head ($f:ident $k $as $e))=>`(tactic|o_head ((L5.Np $k $as (fun _=>by kernel_rfl)):W.Hook))
local macro_rules|`(command|#where)=>do
 let mut r:=#[]
 for n in [43:1530] do
  let x:=Lean.mkIdent (.mkSimple s!"tw{((Lean.Name.mkSimple "hd").str s!"o_{n}").hash}")
  r:=r.push ((<-`(command|noncomputable def $x:ident:=0)).raw.rewriteBottomUp (·.setInfo .none))
 return Lean.mkNullNode r
noncomputable section
namespace PySem.W.Fast
def tw6809056992518555938:=0
def tw16100691501515759841:=0
def tw8600003543474550401:=0
def tw11899693301848689474:=0
def tw1647335858807015012:=0
def tw2195466600730450949:=0
def tw14335442591911757157:=0
def tw14575388751658381831:=0
def tw16380965088707415623:=0
def tw8169806428440432713:=0
def tw10374632558016547081:=0
def tw938635154573522699:=0
def tw4260957879368936235:=0
def tw1348686238360321804:=0
def tw7774113678449685934:=0
def tw4891155283279915023:=0
def tw280917380089993231:=0
def tw13342595474641073200:=0
def tw15853837366616553680:=0
def tw10772888853195510384:=0
def tw13274997305513706577:=0
def tw861502493610598483:=0
def tw1179633367757178035:=0
def tw13169389602587208947:=0
def tw2255770438638334868:=0
def tw2699686421266289142:=0
def tw1658382015597488694:=0
def tw2711973275048833399:=0
def tw12620873455715996183:=0
def tw17322059916419148152:=0
def tw8161656369779717402:=0
def tw10257955065651855134:=0
def tw2964640727653848319:=0
def tw7478123994339007903:=0
def tw1296790758570689965:=0
def tw4043706138742882717:=0
def tw11156245012059776263:=0
def tw14093639371245587692:=0
def tw15181078141257973585:=0
def tw472026066189085614:=0
def tw4605971472053405522:=0
def tw10294078964567370430:=0
def tw13823908486322433141:=0
def tw14151252239970057569:=0
def tw8387090941293194387:=0
def tw13857218912954019169:=0
def tw9296065175928017463:=0
def tw12063395154255005496:=0
#where
end PySem.W.Fast
end
set_option maxRecDepth 100000 in
set_option maxHeartbeats 0 in
open_top hd for PySem.Challenge.rw_tellworld_k08_verbs_that_are_none
end
set_option maxRecDepth 100000
namespace L2
open PySem PySem.Spec PyProof.Rows
abbrev Key:=Sum Int Str
def yS:Key->aa->Bool
 |.inl k,v=>lb k v
 |.inr x,v=>kC x v
def OY(w:ao):Key->Int
 |.inl k=>hashInt k
 |.inr x=>hashStr w x
theorem oU:∀{k:Key} {v:aa},yS k v=true->(∃i t,k=Sum.inl i/\v=Value.int i t)\/(∃x t,k=Sum.inr x/\v=Value.str x t)
 |.inl i,v,h=>by obtain⟨t,e⟩:=Value.isInt_shape (k:=i) (v:=v) h;exact .inl ⟨i,t,rfl,e⟩
 |.inr x,v,h=>by obtain⟨t,e⟩:=Value.isStrOf_shape (x:=x) (v:=v) h;exact .inr ⟨x,t,rfl,e⟩
theorem Du(i:Int)(t:Tok):yS (.inl i) (.int i t)=true:=by simp[yS,lb]
theorem Dv(x:Str)(t:Tok):yS (.inr x) (.str x t)=true:=by simp[yS,kC]
theorem JZ(a b:Int):decide ((Sum.inl a:Key)=Sum.inl b)=(a==b):=by
 by_cases e:a=b
 ·subst e;simp
 ·have h:¬(Sum.inl a:Key)=Sum.inl b:=λq=>e (Sum.inl.inj q);rw[bh h];exact(beq_eq_false_iff_ne.mpr e).symm
theorem J0(a b:Str):decide ((Sum.inr a:Key)=Sum.inr b)=decide (a=b):=by
 by_cases e:a=b
 ·subst e;simp
 ·have h:¬(Sum.inr a:Key)=Sum.inr b:=λq=>e (gy q);rw[bh h,bh e]
theorem J1(a:Int)(b:Str):decide ((Sum.inl a:Key)=Sum.inr b)=false:=bh (λq=>nomatch q)
theorem J2(a:Str)(b:Int):decide ((Sum.inr a:Key)=Sum.inl b)=false:=bh (λq=>nomatch q)
def oa(prog:aq)(w:ao):PySem.KeyKind prog w Key where
 is:=yS
 hash:=OY w
 inj:=λv a b ha hb=>by
  rcases oU ha with ⟨i,t,rfl,rfl⟩|⟨x,t,rfl,rfl⟩
  ·rcases oU hb with ⟨j,u,rfl,e⟩|⟨y,u,rfl,e⟩
   ·injection e with e1 _;rw[e1]
   ·exact nomatch e
  ·rcases oU hb with ⟨j,u,rfl,e⟩|⟨y,u,rfl,e⟩
   ·exact nomatch e
   ·injection e with e1 _;rw[e1]
 byValue:=λk v h=>by rcases oU h with ⟨i,t,rfl,rfl⟩|⟨x,t,rfl,rfl⟩<;>rfl
 pyHash:=λhv h=>by
  rcases oU hv with ⟨i,t,rfl,rfl⟩|⟨x,t,rfl,rfl⟩
  ·exact wpAny_pyHash_int h
  ·exact wpAny_pyHash_str h
 eqBool:=λhu hv h=>by
  rcases oU hu with ⟨i,t,rfl,rfl⟩|⟨x,t,rfl,rfl⟩
  ·rcases oU hv with ⟨j,u,rfl,rfl⟩|⟨y,u,rfl,rfl⟩
   ·rw[JZ]at h;exact wpAny_eqBool_int h
   ·rw[J1]at h;exact jL i t y u _ _ _ _ h
  ·rcases oU hv with ⟨j,u,rfl,rfl⟩|⟨y,u,rfl,rfl⟩
   ·rw[J2]at h;exact jM x t j u _ _ _ _ h
   ·rw[J0]at h;exact wpAny_eqBool_str h
 «strs»:=λk x t v h=>by
  rcases oU h with ⟨i,u,rfl,e⟩|⟨y,u,rfl,e⟩
  ·exact nomatch e
  ·injection e with e1 _;subst e1;cases v<;>rfl
theorem Al(prog:aq)(w:ao)(i:Int)(t:Tok):(oa prog w).is (.inl i) (.int i t)=true:=Du i t
theorem Am(prog:aq)(w:ao)(x:Str)(t:Tok):(oa prog w).is (.inr x) (.str x t)=true:=Dv x t
inductive V where
 |non|bl (b:Bool)|int (i:Int)|str (x:Str)|byt (b:Array UInt8)|flt (b:UInt64)|ref (a:Addr)|ty (n:String)
 deriving DecidableEq
def RelV:V->aa->Prop
 |.non,u=>u=Value.none
 |.bl b,u=>u=Value.bool b
 |.int i,u=>∃t,u=Value.int i t
 |.str x,u=>∃t,u=Value.str x t
 |.byt b,u=>∃t,u=Value.bytes b t
 |.flt b,u=>∃t,u=Value.float b t
 |.ref a,u=>u=Value.ref a
 |.ty n,u=>u=Value.type n
abbrev Vals:List V->List aa->Prop:=eX RelV
variable{us:List aa}
theorem Vals.length{xs:List V}(r:Vals xs us):xs.length=us.length:=iE r
theorem Vals.get:∀{xs:List V} {us:List aa} {i:Nat} {x:V},Vals xs us->xs[i]?=some x->∃u,us[i]?=some u/\RelV x u
 |_,_,_,_,.nil,e=>by simp at e
 |_,_,0,_,.cons r _,e=>by simp at e;subst e;exact⟨_,rfl,r⟩
 |_,_,i+1,x,.cons _ t,e=>by obtain⟨u,h1,h2⟩:=Vals.get (i:=i) (x:=x) t (by simpa using e);exact⟨u,by simpa using h1,h2⟩
variable{u:aa}
theorem Vals.set{x:V}(r:RelV x u):∀{xs:List V} {us:List aa} (i:Nat),Vals xs us->Vals (xs.set i x) (us.set i u)
 |_,_,_,.nil=>.nil
 |_,_,0,.cons _ t=>.cons r t
 |_,_,i+1,.cons q t=>.cons q (Vals.set r i t)
theorem Vals.append:∀{xs ys:List V} {us ws:List aa},Vals xs us->Vals ys ws->Vals (xs++ys) (us++ws)
 |_,_,_,_,.nil,s=>s
 |_,_,_,_,.cons r t,s=>.cons r (Vals.append t s)
theorem Vals.take:∀{xs:List V} {us:List aa} (n:Nat),Vals xs us->Vals (xs.take n) (us.take n)
 |_,_,0,_=>.nil
 |_,_,_+1,.nil=>.nil
 |_,_,n+1,.cons r t=>.cons r (Vals.take n t)
theorem Vals.drop:∀{xs:List V} {us:List aa} (n:Nat),Vals xs us->Vals (xs.drop n) (us.drop n)
 |_,_,0,r=>r
 |_,_,_+1,.nil=>.nil
 |_,_,n+1,.cons _ t=>Vals.drop n t
def uC:Option V->Option aa->Prop
 |some v,some u=>RelV v u
 |none,none=>True
 |_,_=>False
def KV{κ:Type}:List (κ×V)->List (κ×aa)->Prop:=eX λ(p:κ×V) (q:κ×aa)=>p.1=q.1/\RelV p.2 q.2
def kV:Key->V
 |.inl i=>.int i
 |.inr x=>.str x
inductive HO where
 |lst (xs:List V)
 |tup (xs:List V)
 |dK (kvs:List (Key×V))|dT (kvs:List (List Key×V))
 |set (S:Int->Bool) (n:Nat)
 |ins (C dx:Addr) (fs:List (Str×V))
 |own (x:Addr)
 |xd (fs:List (Str×V))
 |met (f x:Addr)
 |rng (lo hi:Int)
 |frz (o:Obj) (u:HO)
 |tbl (ps:Array aa)
 |ext (φ:Heap->Prop)
abbrev Hp:=Addr->Option HO
def upd(H:Hp)(a:Addr)(o:HO):Hp:=λb=>if b=a then some o else H b
variable{a:Addr}{o:HO}
theorem nW{H:Hp}:upd H a o a=some o:=by unfold upd;rw[ag rfl]
variable{b:Addr}
theorem nT{H:Hp}(h:b≠a):upd H a o b=H b:=by unfold upd;rw[ah h]
theorem Nq{H:Hp}{u:HO}(h:H a=some o)(h':H b=some u)(d:o≠u):a≠b:=by intro e;subst e;rw[h]at h';exact d (bT h')
theorem pB{H:Hp}(h:H a=some o)(h':H b=none):a≠b:=by intro e;subst e;rw[h]at h';cases h'
section
variable(P:aq)(w:ao)
def o8(H:Hp)(h:Heap)(a:Addr):HO->Prop
 |.lst xs=>xs.length<=az/\∃(its:List aa) (n:Nat),Vals xs its/\h.get? a=some { cls:=.type "list", data:=.seq its.toArray n }
 |.tup xs=>xs.length<=az/\∃its:List aa,Vals xs its/\IsTup h a its.toArray
 |.dK kvs=>kvs.length<=az/\(a==cE)=false/\∃vs,KV kvs vs/\h.DictOf (oa P w) a vs
 |.dT kvs=>kvs.length<=az/\(a==cE)=false/\∃xs:List (List Key×Addr×aa),
   eX (λ(p:List Key×V) (q:List Key×Addr×aa)=>p.1=q.1/\H q.2.1=some (.tup (p.1.map kV))/\RelV p.2 q.2.2) kvs xs/\
   ∃o es ep,h.get? a=some o/\o.ExactDict/\o.data=.dict es ep/\es.toList=xs.map (entryOfKey (tupleKind (oa P w)))/\(xs.map (·.1)).Nodup
 |.set S n=>h.SetOf (intKind P w) a S n
 |.ins C dx fs=>H dx=some (.own a)/\fs.length<=1000/\dx≠a/\h.get? a=some (dM C dx)/\
   ∃mA,h.Ns1 dx mA/\(∀f,uC (fs.lookup f) (mA f))/\iI mA (fs.map (·.1))
 |.own _=>∃o,h.get? a=some o
 |.xd fs=>∃mA,h.Ns1 a mA/\∀f,uC (fs.lookup f) (mA f)
 |.rng lo hi=>∃t u v,h.get? a=some { cls:=.type "range", data:=.fields #[.int lo t,.int hi u,.int 1 v] }
 |.frz o u=>h.get? a=some o/\o8 H h a u
 |.tbl ps=>h.get? a=some { cls:=.none,data:=.fields ps }
 |.met f x=>h.get? a=some (iP (.ref f) (.ref x))
 |.ext φ=>φ h/\(∃o,h.get? a=some o)/\∀h1 h2:Heap,φ h1->(∀o,h1.get? a=some o->h2.get? a=some o)->φ h2
def HOk(H:Hp)(h:Heap):Prop:=∀a o,H a=some o->o8 P w H h a o
end
section
variable{P:aq}{w:ao}{H H':Hp}{h h':Heap}{a:Addr}{o:HO}
theorem o8.lt(x:o8 P w H h a o):a<h.objs.size:=by
 cases o with
 |lst xs=>obtain⟨_,_,_,_,e⟩:=x;exact aF e
 |tup xs=>obtain⟨_,_,_,p⟩:=x;exact p.lt
 |dK kvs=>obtain⟨_,_,_,_,o,_,_,e,_⟩:=x;exact aF e
 |dT kvs=>obtain⟨_,_,_,_,o,_,_,e,_⟩:=x;exact aF e
 |set S n=>obtain⟨o,_,_,_,e,_⟩:=x;exact aF e
 |ins C dx fs=>obtain⟨_,_,_,e,_⟩:=x;exact aF e
 |own y=>obtain⟨_,e⟩:=x;exact aF e
 |xd fs=>obtain⟨_,⟨_,_,_,e,_⟩,_⟩:=x;exact aF e
 |rng lo hi=>obtain⟨_,_,_,e⟩:=x;exact aF e
 |frz ob u=>obtain⟨e,_⟩:=x;exact aF e
 |tbl ps=>exact aF (show h.get? a=some _ from x)
 |met f y=>exact aF (show h.get? a=some _ from x)
 |ext φ=>obtain⟨_,⟨_,e⟩,_⟩:=x;exact aF e
theorem Paired.mapP{α β:Type}{F G:α->β->Prop}:∀{l₁:List α} {l₂:List β},eX F l₁ l₂->(∀a b,F a b->G a b)->eX G l₁ l₂
 |_,_,.nil,_=>.nil
 |_,_,.cons r t,f=>.cons (f _ _ r) (Paired.mapP t f)
theorem o8.stay(x:o8 P w H h a o)(k:∀b u,(b=a\/H b=some (.own a))->h.get? b=some u->h'.get? b=some u)
  (ho:∀b,H b=some (.own a)->H' b=some (.own a)) (ht:∀b xs,H b=some (.tup xs)->H' b=some (.tup xs)):o8 P w H' h' a o:=by
 induction o with
 |lst xs=>obtain⟨z,its,n,r,e⟩:=x;exact⟨z,its,n,r,k _ _ (.inl rfl) e⟩
 |tup xs=>obtain⟨z,its,r,ob,e,c⟩:=x;exact⟨z,its,r,ob,k _ _ (.inl rfl) e,c⟩
 |dK kvs=>obtain⟨z,y,vs,r,ob,es,ep,e,c⟩:=x;exact⟨z,y,vs,r,ob,es,ep,k _ _ (.inl rfl) e,c⟩
 |dT kvs=>obtain⟨z,y,xs,r,ob,es,ep,e,c⟩:=x;exact⟨z,y,xs,Paired.mapP r λp q z=>⟨z.1,ht _ _ z.2.1,z.2.2⟩,ob,es,ep,k _ _ (.inl rfl) e,c⟩
 |set S n=>obtain⟨ob,es,ep,t,e,c⟩:=x;exact⟨ob,es,ep,t,k _ _ (.inl rfl) e,c⟩
 |ins C dx fs=>obtain⟨d,z,ne,e,mA,⟨od,es,ep,e2,c⟩,r⟩:=x;exact⟨ho _ d,z,ne,k _ _ (.inl rfl) e,mA,⟨od,es,ep,k _ _ (.inr d) e2,c⟩,r⟩
 |own y=>obtain⟨ob,e⟩:=x;exact⟨ob,k _ _ (.inl rfl) e⟩
 |xd fs=>obtain⟨mA,⟨od,es,ep,e,c⟩,r⟩:=x;exact⟨mA,⟨od,es,ep,k _ _ (.inl rfl) e,c⟩,r⟩
 |rng lo hi=>obtain⟨t,u,v,e⟩:=x;exact⟨t,u,v,k _ _ (.inl rfl) e⟩
 |frz ob u ih=>obtain⟨e,q⟩:=x;exact⟨k _ _ (.inl rfl) e,ih q⟩
 |tbl ps=>have e:h.get? a=some { cls:=.none,data:=.fields ps }:=x;show h'.get? a=some { cls:=.none,data:=.fields ps };exact k a _ (.inl rfl) e
 |met f y=>have e:h.get? a=some (iP (.ref f) (.ref y)):=x;show h'.get? a=some (iP (.ref f) (.ref y));exact k a _ (.inl rfl) e
 |ext φ=>obtain⟨p,⟨o,e⟩,st⟩:=x;exact⟨st _ _ p λo q=>k _ _ (.inl rfl) q,⟨o,k _ _ (.inl rfl) e⟩,st⟩
theorem HOk.lt(x:HOk P w H h)(e:H a=some o):a<h.objs.size:=(x a o e).lt
theorem HOk.fresh(x:HOk P w H h)(e:h.objs.size<=a):H a=none:=by
 cases q:H a with
 |none=>rfl
 |some u=>exact ak (bN (x.lt q) e) (dG _)
theorem HOk.kept(x:HOk P w H h)(k:∀b u,h.get? b=some u->h'.get? b=some u):HOk P w H h':=λa o e=>
 (x a o e).stay (λb u _ q=>k b u q) (λ_ q=>q) λ_ _ q=>q
theorem HOk.laid(x:HOk P w H h)(k:∀b u,h.get? b=some u->h'.get? b=some u)(hp:h.objs.size<=a)(new:o8 P w (upd H a o) h' a o):HOk P w (upd H a o) h':=λb u e=>by
 have hn:=x.fresh hp;by_cases hb:b=a
 ·subst hb;rw[nW]at e;cases e;exact new
 ·rw[nT hb]at e;exact(x b u e).stay (λc v _ q=>k c v q) (λc q=>by rw[nT (pB q hn)];exact q) λc xs q=>by rw[nT (pB q hn)];exact q
end
def Rd(H:Hp)(a:Addr)(u:HO):Prop:=H a=some u\/∃o,H a=some (.frz o u)
theorem Rd.ok{P:aq}{w:ao}{H:Hp}{h:Heap}{u:HO}(r:Rd H a u)(x:HOk P w H h):o8 P w H h a u:=by
 rcases r with r|⟨o,r⟩
 ·exact x a u r
 ·obtain⟨_,q⟩:=x a _ r;exact q
def Mut:Option HO->Prop
 |some (.lst _)=>True
 |some (.dK _)=>True
 |some (.dT _)=>True
 |some (.set _ _)=>True
 |some (.ins _ _ _)=>True
 |some (.ext _)=>True
 |_=>False
section
variable{P:aq}{w:ao}{H:Hp}{h h':Heap}{x e:Addr}{o':HO}
theorem HOk.write(ok:HOk P w H h)(mu:Mut (H x))(he:e=x\/H e=some (.own x))(k:∀b u,b≠e->h.get? b=some u->h'.get? b=some u)(heo:∃u,h'.get? e=some u)
  (new:o8 P w (upd H x o') h' x o'):HOk P w (upd H x o') h':=λb u q=>by
 have nown:∀c y,H c=some (.own y)->c≠x:=λc y r z=>by subst z;rw[r]at mu;exact mu
 have ntup:∀c xs,H c=some (.tup xs)->c≠x:=λc xs r z=>by subst z;rw[r]at mu;exact mu
 by_cases hb:b=x
 ·subst hb;rw[nW]at q;cases q;exact new
 ·rw[nT hb]at q;by_cases hbe:b=e
  ·have q':H b=some (.own x):=by
    rcases he with z|z
    ·exact ak (hbe.trans z) hb
    ·rw[hbe];exact z
   rw[q]at q';cases q';obtain⟨v,hv⟩:=heo;exact⟨v,by rw[hbe];exact hv⟩
  ·refine(ok b u q).stay (λc v hc r=>k c v ?_ r) (λc r=>by rw[nT (nown c b r)];exact r) λc xs r=>by rw[nT (ntup c xs r)];exact r
   rcases hc with rfl|hc
   ·exact hbe
   ·rintro rfl;rcases he with z|z
    ·exact nown c b hc z
    ·rw[hc]at z;cases z;exact hb rfl
end
structure Un(fs ex:List Addr)(H H':Hp)(h h':Heap):Prop where
 keep:∀b o,h.get? b=some o->H b=none->b∉fs->b∉ex->h'.get? b=some o
 slot:∀b o,h.get? b=some o->H b=none->b∈fs->b∉ex->∃sl,h'.get? b=some { o with slots:=sl }
 free:∀b o,h.get? b=some o->H b=none->b∉ex->H' b=none
 there:∀b o,h.get? b=some o->b∉ex->∃o',h'.get? b=some o'
 tups:∀b xs,H b=some (.tup xs)->H' b=some (.tup xs)
 frzs:∀b o u,H b=some (.frz o u)->H' b=some (.frz o u)
 tbls:∀b ps,H b=some (.tbl ps)->∃more,H' b=some (.tbl (ps++more))
section
variable{fs fs' ex ex':List Addr}{H H1 H2:Hp}{h h1 h2 h':Heap}{a x e:Addr}{o:HO}
theorem Un.any(u:Un fs ex H H1 h h1){ob:Obj}(q:h.get? b=some ob)(n:H b=none)(hx:b∉ex):∃sl,h1.get? b=some { ob with slots:=sl }:=by
 by_cases hb:b∈fs
 ·exact u.slot b ob q n hb hx
 ·exact⟨ob.slots,u.keep b ob q n hb hx⟩
theorem Un.kept(k:∀b u,h.get? b=some u->h'.get? b=some u):Un fs ex H H h h':=
 ⟨λb ob q _ _ _=>k b ob q,λb ob q _ _ _=>⟨ob.slots,k b ob q⟩,λ_ _ _ n _=>n,λb ob q _=>⟨ob,k b ob q⟩,λ_ _ q=>q,λ_ _ _ q=>q,λ_ ps q=>⟨#[],by rw[q];simp⟩⟩
theorem Un.refl:Un fs ex H H h h:=Un.kept λ_ _ q=>q
theorem Un.laid(k:∀b u,h.get? b=some u->h'.get? b=some u)(hp:h.objs.size<=a)(hn:H a=none):Un fs ex H (upd H a o) h h' where
 keep:=λb u q _ _ _=>k b u q
 slot:=λb u q _ _ _=>⟨u.slots,k b u q⟩
 free:=λb u q n _=>by rw[nT (aR (bN (aF q) hp))];exact n
 there:=λb u q _=>⟨u,k b u q⟩
 tups:=λb xs q=>by rw[nT (pB q hn)];exact q
 frzs:=λb u xs q=>by rw[nT (pB q hn)];exact q
 tbls:=λb ps q=>⟨#[],by rw[nT (pB q hn),q];simp⟩
theorem Un.write(mu:Mut (H x))(he:e=x\/H e=some (.own x))(k:∀b u,b≠e->h.get? b=some u->h'.get? b=some u)(heo:∃u,h'.get? e=some u):Un fs ex H (upd H x o) h h':=by
 have hx:∀b,H b=none->b≠x:=λb n z=>by subst z;rw[n]at mu;exact mu
 have hb:∀b,H b=none->b≠e:=λb n z=>by
  subst z;rcases he with r|r
  ·exact hx b n r
  ·rw[n]at r;cases r
 have hm:∀b u,H b=some u->¬Mut (some u)->b≠x:=λb u q nm z=>by subst z;rw[q]at mu;exact nm mu
 refine⟨λb u q n _ _=>k b u (hb b n) q,λb u q n _ _=>⟨u.slots,k b u (hb b n) q⟩,λb u q n _=>by rw[nT (hx b n)];exact n,λb u q _=>?_,
  λb xs q=>by rw[nT (hm b _ q λz=>z)];exact q,λb u xs q=>by rw[nT (hm b _ q λz=>z)];exact q,λb ps q=>⟨#[],by rw[nT (hm b _ q λz=>z),q];simp⟩⟩
 by_cases hbe:b=e
 ·subst hbe;exact heo
 ·exact⟨u,k b u hbe q⟩
end
def trk(h:Heap)(H:Hp):List Addr:=(aO h.objs.size).filter λa=>(H a).isSome
def zF(h:Heap)(H:Hp):Heap:=W.hideAll h (trk h H)
theorem Dw(h:Heap)(H:Hp):(zF h H).objs.size=h.objs.size:=W.hideAll_size _ _
theorem Eo{h:Heap}{H:Hp}{o:Obj}(e:h.get? b=some o)(n:H b=none):(zF h H).get? b=some o:=
 iO _ e λhm=>by have q:(H b).isSome=true:=(bz.mp hm).2;rw[n]at q;simp at q
theorem GP{h:Heap}{H:Hp}{o:Obj}(e:(zF h H).get? b=some o):h.get? b=some o/\H b=none:=by
 have e':h.get? b=some o:=iY (trk h H) e;refine⟨e',?_⟩;cases q:H b with
 |none=>rfl
 |some x=>have hm:b∈trk h H:=bz.mpr ⟨bA.mpr (aF e'),by simp[q]⟩;have z:(zF h H).get? b=none:=W.hideAll_none (trk h H) hm;rw[z]at e;cases e
def GQ(g h:Heap)(L:Addr):List (Addr×Obj):=(aO h.objs.size).filterMap λa=>if a=L\/(g.get? a).isSome=true then none else (h.get? a).map λo=>(a,o)
def rest(g h:Heap)(L d:Addr):List (Addr×Obj):=(GQ g h L).filter λp=>decide (p.1≠d)
structure Mod(K:aj)(mg:Str->Option aa)(base:Heap):Prop where
 kin:K.In base
 glob:base.Ns aG mg
 blt:∃mb,base.Ns builtinsNs mb/\∀x:Str,x≠"__name__" -> mb x=cQ x
 nolimit:base.NoLimit
structure Cx where
 prog:aq
 w:ao
 K:aj
 mg:Str->Option aa
 base:Heap
 A:ay
 N:List Str
 s₀:ae
 H₀:Hp
 env:Env
 outer:List Env
 stack:List Env
 ex:List Addr
 fn:Str->Bool
 calm:Bool
 pn:List (Addr×Obj)
 xe:aa->ae->Prop
def frs(l:List Env):List Addr:=l.filterMap (·.frame)
abbrev Cx.fs(X:Cx):List Addr:=frs X.outer
def Vis(sc:bW)(x:Str):Prop:=sc.names.lookup x=some .local\/sc.names.lookup x=some .cell\/sc.names.lookup x=some .free
def Loc(sc:bW)(x:Str):Prop:=sc.names.lookup x=some .local\/sc.names.lookup x=some .cell
def Look(env:Env)(h:Heap)(m:Str->Option aa)(x:Str)(u:aa):Prop:=
 (env.kindOf x=some .local/\m x=some u)\/((env.kindOf x=some .cell\/env.kindOf x=some .free)/\∃c,env.cells.lookup x=some c/\h.IsCell c (some u))
structure Cx.Ok(X:Cx):Prop where
 mod:Mod X.K X.mg X.base
 kind:X.env.scope.kind=.function
 glob:X.env.globals=aG
 blt:X.env.builtins=builtinsNs
 above:X.s₀.heap.objs.size<=X.env.locals
 inj:∀x y c,X.env.cells.lookup x=some c->X.env.cells.lookup y=some c->x=y
 has:∀x,(X.env.kindOf x=some .cell\/X.env.kindOf x=some .free)->∃c,X.env.cells.lookup x=some c
 cab:∀x c,X.fn x=true->X.env.cells.lookup x=some c->X.s₀.heap.objs.size<=c
 hd:X.calm=true->X.A.handled=none
 frames:X.A.frames=some X.stack
 stk:X.stack=X.outer\/(X.stack=X.env::X.outer/\X.env.frame=some X.env.locals)
 exf:∀b∈X.ex,b≠X.env.locals/\∀x c,X.env.cells.lookup x=some c->c≠b
 bs:∀b o,X.base.get? b=some o->X.s₀.heap.get? b=some o/\X.H₀ b=none
 bsz:X.base.objs.size<=X.s₀.heap.objs.size
 noex:∀b o,X.base.get? b=some o->b∉X.ex
 exfs:∀b∈X.ex,b∉X.fs
 funs:X.s₀.heap.FunFrames X.base X.outer
 frf:∀b∈X.fs,X.H₀ b=none
structure Inv(X:Cx)(pins:List (Addr×Obj))(σ:List (Option V))(H:Hp)(s:ae):Prop where
 ok:X.Ok
 os:s.os=X.s₀.os
 bare:cX s.gens
 base:Un X.fs X.ex X.H₀ H X.s₀.heap s.heap
 loc:∃m,s.heap.Ns X.env.locals m/\∀(i:Nat) (x:Str) (v:V),X.N[i]?=some x->σ[i]?=some (some v)->Vis X.env.scope x->∃u,RelV v u/\Look X.env s.heap m x u
 cell:∀x c,X.env.cells.lookup x=some c->∃v,s.heap.IsCell c v
 free:H X.env.locals=none
 freeC:∀x c,X.env.cells.lookup x=some c->H c=none
 pin:∀p∈X.pn++pins,s.heap.get? p.1=some p.2/\H p.1=none/\p.1≠X.env.locals/\p.1∉X.fs/\∀v,p.2.data≠.cell v
 hok:HOk X.prog X.w H s.heap
 len:σ.length=X.N.length
variable{g':Array eA}{t' j:Nat}{d':Drawn}{ch:List Addr}{it:Addr}{N:List Str}{x:Str}{M:Model}{E:aa->ae->Prop}{s':ae}
section
variable{X:Cx}{pins:List (Addr×Obj)}{σ:List (Option V)}{H H':Hp}{s:ae}{h':Heap}
theorem Cx.Ok.nofr(ok:X.Ok){o:Obj}(e:X.base.get? b=some o):b∉X.fs:=λhb=>by have:=(ok.funs.mem hb).1;rw[e]at this;cases this
theorem Inv.bs(I:Inv X pins σ H s):∀b o,X.base.get? b=some o->s.heap.get? b=some o/\H b=none:=λb o e=>
 ⟨I.base.keep b o (I.ok.bs b o e).1 (I.ok.bs b o e).2 (I.ok.nofr e) (I.ok.noex b o e),I.base.free b o (I.ok.bs b o e).1 (I.ok.bs b o e).2 (I.ok.noex b o e)⟩
theorem Inv.bk(I:Inv X pins σ H s):∀b o,X.base.get? b=some o->s.heap.get? b=some o:=λb o e=>(I.bs b o e).1
theorem Inv.mod(I:Inv X pins σ H s):Mod X.K X.mg X.base:=I.ok.mod
theorem Inv.kIn(I:Inv X pins σ H s):X.K.In s.heap:=I.ok.mod.kin.keeps I.bk
theorem Inv.fr(I:Inv X pins σ H s):∃m,Fr X.base X.env.locals s.heap m:=
 let ⟨m,hn,_⟩:=I.loc
 ⟨m,hn,I.bk,bH I.ok.bsz I.ok.above⟩
theorem Inv.lt(I:Inv X pins σ H s):X.env.locals<s.heap.objs.size:=let ⟨_,hn,_⟩:=I.loc;hn.lt
theorem Inv.sz(I:Inv X pins σ H s):X.s₀.heap.objs.size<=s.heap.objs.size:=bH I.ok.above (gr I.lt)
theorem Inv.nofs(I:Inv X pins σ H s)(h:s.heap.objs.size<=a):a∉X.fs:=λhb=>by obtain⟨_,o,ho,_⟩:=I.ok.funs.mem hb;exact ak (bN (aF ho) (bH I.sz h)) (dG _)
theorem Inv.cne(I:Inv X pins σ H s):∀x c,X.env.cells.lookup x=some c->c≠X.env.locals:=λx c e z=>by obtain⟨v,o,ho,hd⟩:=I.cell x c e;obtain⟨m,⟨o',es,ep,ho',hd',_⟩,_⟩:=I.loc;rw[z,ho']at ho;cases ho;rw[hd']at hd;cases hd
theorem Inv.funs(I:Inv X pins σ H s):s.heap.FunFrames X.base X.outer:=by
 have all:∀(l:List Env),(∀b∈frs l,b∈X.fs)->X.s₀.heap.FunFrames X.base l->s.heap.FunFrames X.base l:=by
  intro l
  induction l with
  |nil=>intro _ _;trivial
  |cons env r ih=>intro hs hl;obtain⟨hk,⟨L,o,hf,hn,ho,hd⟩,hr⟩:=hl;have hL:L∈X.fs:=hs L (by unfold frs;rw[cM,hf];exact aH);obtain⟨sl,e⟩:=I.base.slot L o ho (I.ok.frf L hL) hL λz=>I.ok.exfs L z hL;exact⟨hk,⟨L,_,hf,hn,e,hd⟩,ih (λb hb=>hs b (by unfold frs;rw[cM,hf];exact aM _ hb)) hr⟩
 exact all X.outer (λ_ hb=>hb) I.ok.funs
theorem Inv.stack(I:Inv X pins σ H s):s.heap.FunFrames X.base X.stack:=by
 rcases I.ok.stk with e|⟨e,hf⟩
 ·rw[e];exact I.funs
 ·rw[e];obtain⟨m,hn,_⟩:=I.loc;refine .cons (by rw[I.ok.kind];decide) hf hn ?_ I.funs;exact Heap.get?_none_of_le (bH I.ok.bsz I.ok.above)
theorem Inv.stkSub(I:Inv X pins σ H s):∀b∈frs X.stack,b∈X.env.locals::X.fs:=λb hb=>by
 rcases I.ok.stk with e|⟨e,hf⟩
 ·rw[e]at hb;exact aM _ hb
 ·rw[e]at hb;unfold frs at hb;rw[cM,hf]at hb;exact hb
theorem Inv.stkFree(I:Inv X pins σ H s):∀b∈frs X.stack,H b=none:=λb hb=>by
 rcases aW.mp (I.stkSub b hb)with e|hb
 ·rw[e];exact I.free
 ·obtain⟨_,o,ho,_⟩:=I.ok.funs.mem hb;exact I.base.free b o ho (I.ok.frf b hb) λz=>I.ok.exfs b z hb
theorem Inv.step(I:Inv X pins σ H s)
  (hch:∀b∈ch,(b∈X.ex\/X.s₀.heap.objs.size<=b)/\b≠X.env.locals/\(∀x c,X.env.cells.lookup x=some c->c≠b)/\∀p∈X.pn++pins,p.1≠b)
  (keep:∀b o,b≠X.env.locals->b∉X.fs->b∉ch->s.heap.get? b=some o->H b=none->h'.get? b=some o)
  (slot:∀b o,b≠X.env.locals->b∈X.fs->b∉ch->s.heap.get? b=some o->H b=none->∃sl,h'.get? b=some { o with slots:=sl }) (free:∀b o,b∉ch->s.heap.get? b=some o->H b=none->H' b=none)
  (there:∀b o,b∉ch->s.heap.get? b=some o->∃o',h'.get? b=some o')
  (tups:∀b xs,H b=some (.tup xs)->H' b=some (.tup xs)) (frzs:∀b o u,H b=some (.frz o u)->H' b=some (.frz o u)) (tbls:∀b ps,H b=some (.tbl ps)->∃more,H' b=some (.tbl (ps++more)))
  (ns:∀m,s.heap.Ns X.env.locals m->h'.Ns X.env.locals m) (hok:HOk X.prog X.w H' h') (hg:cX g'):
  Inv X pins σ H' { s with heap:=h',gens:=g',drawn:=d',toks:=t' }:=by
 have neL:∀b o,X.s₀.heap.get? b=some o->b≠X.env.locals:=λb o e=>aR (bN (aF e) I.ok.above);have neC:∀b o,X.s₀.heap.get? b=some o->b∉X.ex->b∉ch:=λb o e hx hb=>by
  rcases(hch b hb).1 with z|z
  ·exact hx z
  ·exact ak (bN (aF e) z) (dG _)
 have cellK:∀x c,X.env.cells.lookup x=some c->∀v,s.heap.IsCell c v->h'.IsCell c v:=λx c e v ⟨o,ho,hd⟩=>by
  have nch:c∉ch:=λz=>(hch c z).2.2.1 x c e rfl;by_cases hc:c∈X.fs
  ·obtain⟨sl,q⟩:=slot c o (I.cne x c e) hc nch ho (I.freeC x c e);exact⟨_,q,hd⟩
  ·exact⟨o,keep c o (I.cne x c e) hc nch ho (I.freeC x c e),hd⟩
 refine⟨I.ok,I.os,hg,⟨λb o e n hb hx=>?_,λb o e n hb hx=>?_,λb o e n hx=>?_,λb o e hx=>?_,λb xs e=>tups b xs (I.base.tups b xs e),λb o xs e=>frzs b o xs (I.base.frzs b o xs e),λb ps e=>?_⟩,?_,λx c e=>?_,?_,λx c e=>?_,λp hp=>?_,hok,I.len⟩
 ·exact keep b o (neL b o e) hb (neC b o e hx) (I.base.keep b o e n hb hx) (I.base.free b o e n hx)
 ·obtain⟨sl,e1⟩:=I.base.slot b o e n hb hx;obtain⟨sl',e2⟩:=slot b _ (neL b o e) hb (neC b o e hx) e1 (I.base.free b o e n hx);exact⟨sl',e2⟩
 ·obtain⟨o',e1⟩:=I.base.there b o e hx;exact free b o' (neC b o e hx) e1 (I.base.free b o e n hx)
 ·obtain⟨o',e1⟩:=I.base.there b o e hx;exact there b o' (neC b o e hx) e1
 ·obtain⟨m1,e1⟩:=I.base.tbls b ps e;obtain⟨m2,e2⟩:=tbls b _ e1;exact⟨m1++m2,by rw[e2,Array.append_assoc]⟩
 ·obtain⟨m,hn,hl⟩:=I.loc;refine⟨m,ns m hn,λi x v e1 e2 e3=>?_⟩;obtain⟨u,r,l⟩:=hl i x v e1 e2 e3;refine⟨u,r,?_⟩;rcases l with l|⟨k,c,e,z⟩
  ·exact .inl l
  ·exact .inr ⟨k,c,e,cellK x c e _ z⟩
 ·obtain⟨v,z⟩:=I.cell x c e;exact⟨v,cellK x c e v z⟩
 ·obtain⟨m,⟨o,_,_,ho,_⟩,_⟩:=I.loc;exact free _ o (λz=>(hch _ z).2.1 rfl) ho I.free
 ·obtain⟨v,o,ho,hd⟩:=I.cell x c e;exact free c o (λz=>(hch c z).2.2.1 x c e rfl) ho (I.freeC x c e)
 ·obtain⟨e,n,ne,nf,d⟩:=I.pin p hp;have nch:p.1∉ch:=λz=>(hch p.1 z).2.2.2 p hp rfl;exact⟨keep p.1 p.2 ne nf nch e n,free p.1 p.2 nch e n,ne,nf,d⟩
theorem Inv.un(I:Inv X pins σ H s)(u:Un X.fs [] H H' s.heap h')(hok:HOk X.prog X.w H' h'):Inv X pins σ H' { s with heap:=h',toks:=t' }:=by
 obtain⟨m,⟨o,es,ep,ho,r⟩,_⟩:=id I.loc;obtain⟨sl,hL⟩:=u.any ho I.free (by simp);exact I.step (g':=s.gens) (d':=s.drawn) (ch:=[]) (λ_ z=>nomatch z) (λb o _ hb _ e n=>u.keep b o e n hb (by simp)) (λb o _ hb _ e n=>u.slot b o e n hb (by simp)) (λb o _ e n=>u.free b o e n (by simp)) (λb o _ e=>u.there b o e (by simp)) u.tups u.frzs u.tbls (λm' hm=>by
  obtain⟨o',es',ep',ho',r'⟩:=hm;rw[ho]at ho';cases ho';exact⟨_,es',ep',hL,r'⟩) hok I.bare
theorem Inv.call(I:Inv X pins σ H s)(u:Un (frs X.stack) ch H H' s.heap h')(hok:HOk X.prog X.w H' h')(hg:cX g')
  (hch:∀b∈ch,(b∈X.ex\/X.s₀.heap.objs.size<=b)/\b≠X.env.locals/\(∀x c,X.env.cells.lookup x=some c->c≠b)/\∀p∈X.pn++pins,p.1≠b):
  Inv X pins σ H' { s with heap:=h',gens:=g',drawn:=d',toks:=t' }:=by
 obtain⟨m,⟨o,es,ep,ho,r⟩,_⟩:=id I.loc;obtain⟨sl,hL⟩:=u.any ho I.free λz=>(hch _ z).2.1 rfl;exact I.step (ch:=ch) hch (λb o hL hb hc e n=>u.keep b o e n (λz=>(aW.mp (I.stkSub b z)).elim hL hb) hc) (λb o _ _ hc e n=>u.any e n hc) (λb o hc e n=>u.free b o e n hc) (λb o hc e=>u.there b o e hc) u.tups u.frzs u.tbls (λm' hm=>by
  obtain⟨o',es',ep',ho',r'⟩:=hm;rw[ho]at ho';cases ho';exact⟨_,es',ep',hL,r'⟩) hok hg
theorem Inv.turned(I:Inv X pins σ H s)(k:∀b o,b≠it->s.heap.get? b=some o->h'.get? b=some o)(hn:H it=none)(hL:it≠X.env.locals)
  (h1:it∈X.ex\/X.s₀.heap.objs.size<=it) (h2:∀x c,X.env.cells.lookup x=some c->c≠it) (h3:∀p∈X.pn++pins,p.1≠it):Inv X pins σ H { s with heap:=h',toks:=t' }:=by
 have nit:∀b u,H b=some u->b≠it:=λb u e z=>by rw[z,hn]at e;cases e
 refine I.step (g':=s.gens) (d':=s.drawn) (ch:=[it]) (λb hb=>?_) (λb o _ _ hc e _=>k b o (λz=>hc (by simp[z])) e) (λb o _ _ hc e _=>⟨o.slots,k b o (λz=>hc (by simp[z])) e⟩) (λ_ _ _ _ n=>n)
  (λb o hc e=>⟨o,k b o (λz=>hc (by simp[z])) e⟩) (λ_ _ e=>e) (λ_ _ _ e=>e) (λb ps e=>⟨#[],by rw[e];simp⟩) (λm hm=>?_) (λb u e=>?_) I.bare
 ·have e:b=it:=by simpa using hb
  subst e;exact⟨h1,hL,h2,h3⟩
 ·obtain⟨o,es,ep,ho,r⟩:=hm;exact⟨o,es,ep,k _ o (dN hL) ho,r⟩
 ·refine(I.hok b u e).stay (λc v hc q=>k c v ?_ q) (λ_ q=>q) λ_ _ q=>q;rcases hc with z|z
  ·rw[z];exact nit b u e
  ·exact nit c _ z
theorem Inv.tok(I:Inv X pins σ H s)(t:Nat):Inv X pins σ H { s with toks:=t }:=I.un (h':=s.heap) (t':=t) Un.refl I.hok
theorem Inv.kept(I:Inv X pins σ H s)(k:∀b u,s.heap.get? b=some u->h'.get? b=some u):Inv X pins σ H { s with heap:=h',toks:=t' }:=I.un (Un.kept k) (I.hok.kept k)
theorem Inv.laid(I:Inv X pins σ H s)(k:∀b u,s.heap.get? b=some u->h'.get? b=some u)(hp:s.heap.objs.size<=a)(new:o8 X.prog X.w (upd H a o) h' a o):
  Inv X pins σ (upd H a o) { s with heap:=h',toks:=t' }:=I.un (Un.laid k hp (I.hok.fresh hp)) (I.hok.laid k hp new)
theorem Inv.write{x e:Addr}(I:Inv X pins σ H s)(mu:Mut (H x))(he:e=x\/H e=some (.own x))(k:∀b u,b≠e->s.heap.get? b=some u->h'.get? b=some u)(heo:∃u,h'.get? e=some u)
  (new:o8 X.prog X.w (upd H x o) h' x o):Inv X pins σ (upd H x o) { s with heap:=h',toks:=t' }:=I.un (Un.write mu he k heo) (I.hok.write mu he k heo new)
theorem Inv.weak{σ':List (Option V)}(I:Inv X pins σ H s)(hl:σ'.length=σ.length)(w:∀(i:Nat) v,σ'[i]?=some (some v)->σ[i]?=some (some v)):Inv X pins σ' H s:=
 ⟨I.ok,I.os,I.bare,I.base,let ⟨m,hn,hl'⟩:=I.loc;⟨m,hn,λi x v e1 e2 e3=>hl' i x v e1 (w i v e2) e3⟩,I.cell,I.free,I.freeC,I.pin,I.hok,hl.trans I.len⟩
theorem Inv.pins_of{pins':List (Addr×Obj)}(I:Inv X pins σ H s)(h:∀p∈pins',s.heap.get? p.1=some p.2/\H p.1=none/\p.1≠X.env.locals/\p.1∉X.fs/\∀v,p.2.data≠.cell v):Inv X pins' σ H s:=
 ⟨I.ok,I.os,I.bare,I.base,I.loc,I.cell,I.free,I.freeC,λp hp=>(aZ.mp hp).elim (λz=>I.pin p (aT _ z)) (h p),I.hok,I.len⟩
theorem An(hN:N.Nodup){i:Nat}(a:N[i]?=some x)(b:N[j]?=some x):i=j:=by obtain⟨h1,e1⟩:=bo.mp a;obtain⟨h2,e2⟩:=bo.mp b;exact(ir hN).mp (e1.trans e2.symm)
theorem Dy{A:ay}{i:Nat}{v:V}{Q:Unit->ae->Prop}(I:Inv X pins σ H s)(hN:X.N.Nodup)(hi:X.N[i]?=some x)(hx:Loc X.env.scope x)(r:RelV v u)
  (h:∀s',Inv X pins (σ.set i (some v)) H s'->(∃a,eO a s.heap s'.heap/\(a=X.env.locals\/X.env.cells.lookup x=some a))->Q () s') (hf:X.fn x=true\/X.env.scope.names.lookup x=some .local:=by first|exact .inl rfl|exact .inr rfl|assumption):af M A (storeName X.env x u) Q E s:=by
 obtain⟨m,hn,hl⟩:=id I.loc;have hcls:(X.env.scope.kind==.class||(X.env.scope.kind==.module&&X.env.locals != X.env.globals))=false:=by rw[I.ok.kind];rfl
 have hiσ:i<σ.length:=by rw[I.len];exact(bo.mp hi).1
 have cne:=I.cne;have tracked:∀{a:Addr} {h':Heap},(∃o,s.heap.get? a=some o/\H a=none)->eO a s.heap h'->HOk X.prog X.w H h':=λ{a h'} ha hs b ob e=>by
  obtain⟨_,_,hfree⟩:=ha;refine(I.hok b ob e).stay (λc w' hc q=>(hs.2 c ?_).trans q) (λ_ q=>q) λ_ _ q=>q;rintro rfl;rcases hc with rfl|hc
  ·rw[hfree]at e;cases e
  ·rw[hfree]at hc;cases hc
 rcases hx with hk|hk
 ·refine wpAny_storeName_local hk hn (λh' hn' hs=>?_) hcls;obtain⟨oL,_,_,hoL,_⟩:=id hn;refine h _ ⟨I.ok,I.os,I.bare,⟨λb o e n hb hx=>?_,λb o e n hb hx=>?_,I.base.free,λb o e hx=>?_,I.base.tups,I.base.frzs,I.base.tbls⟩,⟨_,hn',λj y v' e1 e2 e3=>?_⟩,λy c e=>?_,I.free,I.freeC,λp hp=>?_,tracked ⟨oL,hoL,I.free⟩ hs,by simpa using I.len⟩ ⟨_,hs,.inl rfl⟩
  ·exact(hs.2 b (aR (bN (aF e) I.ok.above))).trans (I.base.keep b o e n hb hx)
  ·obtain⟨sl,e1⟩:=I.base.slot b o e n hb hx;exact⟨sl,(hs.2 b (aR (bN (aF e) I.ok.above))).trans e1⟩
  ·obtain⟨o',e1⟩:=I.base.there b o e hx;exact⟨o',(hs.2 b (aR (bN (aF e) I.ok.above))).trans e1⟩
  ·by_cases hj:j=i
   ·subst hj;rw[hi]at e1;cases e1;rw[fZ hiσ]at e2;cases e2;exact⟨u,r,.inl ⟨hk,by simp⟩⟩
   ·rw[hE (dN hj)]at e2;obtain⟨u',r',q⟩:=hl j y v' e1 e2 e3;refine⟨u',r',?_⟩;rcases q with ⟨k,e⟩|⟨k,c,e,z⟩
    ·refine .inl ⟨k,?_⟩;have:y≠x:=λe=>hj (An hN e1 (e▸hi));simp[this,e]
    ·exact .inr ⟨k,c,e,z.sameBut hs (cne y c e)⟩
  ·obtain⟨w',z⟩:=I.cell y c e;exact⟨w',z.sameBut hs (cne y c e)⟩
  ·obtain⟨e,n,ne,nf,d⟩:=I.pin p hp;exact⟨(hs.2 p.1 ne).trans e,n,ne,nf,d⟩
 ·have hfn:X.fn x=true:=by
   rcases hf with z|z
   ·exact z
   ·rw[z]at hk;cases hk
  obtain⟨c,hc⟩:=I.ok.has x (.inl hk);obtain⟨w',z⟩:=I.cell x c hc;refine wpAny_storeName_cell I.ok.kind hk hc z (λh' hc' hs=>?_);obtain⟨oc,hoc,hocd⟩:=id z;refine h { s with heap:=h' } ⟨I.ok,I.os,I.bare,⟨λb o e n hb hx=>?_,λb o e n hb hx=>?_,I.base.free,λb o e hx=>?_,I.base.tups,I.base.frzs,I.base.tbls⟩,⟨m,hn.sameBut hs (dN (cne x c hc)),λj y v' e1 e2 e3=>?_⟩,λy c' e=>?_,I.free,I.freeC,λp hp=>?_,tracked ⟨oc,hoc,I.freeC x c hc⟩ hs,by simpa using I.len⟩ ⟨c,hs,.inr hc⟩
  ·exact(hs.2 b (aR (bN (aF e) (I.ok.cab x c hfn hc)))).trans (I.base.keep b o e n hb hx)
  ·obtain⟨sl,e1⟩:=I.base.slot b o e n hb hx;exact⟨sl,(hs.2 b (aR (bN (aF e) (I.ok.cab x c hfn hc)))).trans e1⟩
  ·obtain⟨o',e1⟩:=I.base.there b o e hx;exact⟨o',(hs.2 b (aR (bN (aF e) (I.ok.cab x c hfn hc)))).trans e1⟩
  ·by_cases hj:j=i
   ·subst hj;rw[hi]at e1;cases e1;rw[fZ hiσ]at e2;cases e2;exact⟨u,r,.inr ⟨.inl hk,c,hc,hc'⟩⟩
   ·rw[hE (dN hj)]at e2;obtain⟨u',r',q⟩:=hl j y v' e1 e2 e3;refine⟨u',r',?_⟩;rcases q with q|⟨k,c',e,z'⟩
    ·exact .inl q
    ·refine .inr ⟨k,c',e,z'.sameBut hs ?_⟩;rintro rfl;exact hj (An hN e1 (I.ok.inj _ _ _ e hc▸hi))
  ·by_cases hcc:c'=c
   ·subst hcc;exact⟨_,hc'⟩
   ·obtain⟨w2,z2⟩:=I.cell y c' e;exact⟨w2,z2.sameBut hs hcc⟩
  ·obtain⟨e,n,ne,nf,d⟩:=I.pin p hp;refine⟨(hs.2 p.1 ?_).trans e,n,ne,nf,d⟩;intro q;rw[q,hoc]at e;have q':oc=p.2:=bT e;exact d w' (by rw[<-q'];exact hocd)
theorem Ao{A:ay}{i:Nat}{v:V}{Q:Unit->ae->Prop}(I:Inv X pins σ H s)(hN:X.N.Nodup)(hi:X.N[i]?=some x)(hx:Loc X.env.scope x)(r:RelV v u)
  (h:∀s',Inv X pins (σ.set i (some v)) H s'->Q () s') (hf:X.fn x=true\/X.env.scope.names.lookup x=some .local:=by first|exact .inl rfl|exact .inr rfl|assumption):af M A (storeName X.env x u) Q E s:=
 Dy I hN hi hx r (λs' I' _=>h s' I') hf
theorem Inv.call'(I:Inv X pins σ H s)(ho:s'.os=s.os)(u:Un (frs X.stack) ch H H' s.heap s'.heap)(hok:HOk X.prog X.w H' s'.heap)(hg:cX s'.gens)
  (hch:∀b∈ch,(b∈X.ex\/X.s₀.heap.objs.size<=b)/\b≠X.env.locals/\(∀x c,X.env.cells.lookup x=some c->c≠b)/\∀p∈X.pn++pins,p.1≠b):Inv X pins σ H' s':=by
 obtain⟨h',g',d',t',o'⟩:=s';have e:o'=s.os:=ho;subst e;exact I.call (g':=g') (t':=t') (d':=d') u hok hg hch
end
abbrev XK:=aa->Option Addr->Hp->Prop
abbrev St:=List (Option V)
abbrev VK:=V->Hp->Prop
abbrev TE:=St->Hp->VK->Prop
abbrev TT:=St->Hp->(Bool->Hp->Prop)->Prop
abbrev TA:=St->Hp->(List V->Hp->Prop)->Prop
structure Ends where
 nx:St->Hp->Prop
 rt:VK
 bk:St->Hp->Prop:=λ_ _=>False
 ct:St->Hp->Prop:=λ_ _=>False
abbrev TS:=Ends->St->Hp->Prop
def EP(X:Cx)(pins:List (Addr×Obj))(σ:St)(Q:VK)(u:aa)(s':ae):Prop:=∃v H',Inv X pins σ H' s'/\RelV v u/\Q v H'
def TP(X:Cx)(pins:List (Addr×Obj))(σ:St)(Q:Bool->Hp->Prop)(b:Bool)(s':ae):Prop:=∃H',Inv X pins σ H' s'/\Q b H'
def AP(X:Cx)(pins:List (Addr×Obj))(σ:St)(Q:List V->Hp->Prop)(us:List aa)(s':ae):Prop:=∃vs H',Inv X pins σ H' s'/\Vals vs us/\Q vs H'
def SP(X:Cx)(pins:List (Addr×Obj))(D:Ends)(f:Flow)(s':ae):Prop:=
 match f with
 |.next=>∃σ' H',Inv X pins σ' H' s'/\D.nx σ' H'
 |.brk=>∃σ' H',Inv X pins σ' H' s'/\D.bk σ' H'
 |.cont=>∃σ' H',Inv X pins σ' H' s'/\D.ct σ' H'
 |.ret u=>∃v σ' H',Inv X pins σ' H' s'/\RelV v u/\D.rt v H'
def PE(X:Cx)(e:Expr)(t:TE):Prop:=
 ∀(pins:List (Addr×Obj)) (s:ae) (σ:St) (H:Hp) (Q:VK),Inv X pins σ H s->t σ H Q->af (model X.prog X.w) X.A (eval e X.env) (EP X pins σ Q) X.xe s
def PT(X:Cx)(e:Expr)(t:TT):Prop:=
 ∀(pins:List (Addr×Obj)) (s:ae) (σ:St) (H:Hp) (Q:Bool->Hp->Prop),Inv X pins σ H s->t σ H Q->af (model X.prog X.w) X.A (isTrue e X.env (eval e X.env)) (TP X pins σ Q) X.xe s
def PW(X:Cx)(e:Expr)(t:TT):Prop:=
 ∀(whole:Sem aa) (pins:List (Addr×Obj)) (s:ae) (σ:St) (H:Hp) (Q:Bool->Hp->Prop),Inv X pins σ H s->t σ H Q->af (model X.prog X.w) X.A (isTrue e X.env whole) (TP X pins σ Q) X.xe s
variable{X:Cx}{e:Expr}
theorem PW.pt{t:TT}(h:PW X e t):PT X e t:=h _
def PA(X:Cx)(es:List Expr)(t:TA):Prop:=
 ∀(pos:Pos) (pins:List (Addr×Obj)) (s:ae) (σ:St) (H:Hp) (Q:List V->Hp->Prop),Inv X pins σ H s->t σ H Q->af (model X.prog X.w) X.A (spliced (aX pos (ar es X.env))) (AP X pins σ Q) X.xe s
def PS(X:Cx)(st:Stmt)(t:TS):Prop:=
 ∀(pins:List (Addr×Obj)) (s:ae) (σ:St) (H:Hp) (D:Ends),Inv X pins σ H s->t D σ H->af (model X.prog X.w) X.A (exec st X.env) (SP X pins D) X.xe s
def PSs(X:Cx)(st:List Stmt)(t:TS):Prop:=
 ∀(pins:List (Addr×Obj)) (s:ae) (σ:St) (H:Hp) (D:Ends),Inv X pins σ H s->t D σ H->af (model X.prog X.w) X.A (execs st X.env) (SP X pins D) X.xe s
theorem thn{α:Type}{t:Sem α}{Q Q':α->ae->Prop}{A:ay}{s:ae}(h:af M A t Q E s)(hQ:∀a s,Q a s->Q' a s):af M A t Q' E s:=br h hQ λ_ _ x=>x
variable{pins:List (Addr×Obj)}{σ:St}{R:V->V->Hp->Prop}{pos:Pos}{Q:aa->ae->Prop}{op:eB}{t:TE}{c:Expr}
section
variable{X:Cx}
theorem bin{a b:Expr}{ta tb:TE}(ha:PE X a ta)(hb:PE X b tb){s:ae}{H:Hp}(I:Inv X pins σ H s)(h:ta σ H λx H1=>tb σ H1 λy H2=>R x y H2)
  {α:Type} {Q:α->ae->Prop} {f:aa->aa->Sem α}
  (hf:∀v u s2 x y H2,Inv X pins σ H2 s2->RelV x v->RelV y u->R x y H2->af (model X.prog X.w) X.A (f v u) Q X.xe s2):
  af (model X.prog X.w) X.A (eval a X.env) (λv s₁=>af (model X.prog X.w) X.A (eval b X.env) (λu s₂=>af (model X.prog X.w) X.A (f v u) Q X.xe s₂) X.xe s₁) X.xe s:=by
 refine thn (ha pins s σ H _ I h) λv s1 zz=>?_;obtain⟨x,H1,I1,r1,q1⟩:=zz;refine thn (hb pins s1 σ H1 _ I1 q1) λu s2 zz=>?_;obtain⟨y,H2,I2,r2,q2⟩:=zz;exact hf v u s2 x y H2 I2 r1 r2 q2
def sj(i:Nat):TE:=λσ H Q=>∃v,σ[i]?=some (some v)/\Q v H
def tC(v:V):TE:=λ_ H Q=>Q v H
theorem J3{i:Nat}(hN:X.N[i]?=some x)(hv:Vis X.env.scope x)(hd:(x==("__debug__" : Str))=false:=by decide)(hcd:(x==("__classdict__" : Str))=false:=by decide):PE X (.Name x pos) (sj i):=by
 intro pins s σ H Q I h;obtain⟨v,e,h⟩:=h;obtain⟨m,hn,hl⟩:=I.loc;obtain⟨u,r,l⟩:=hl i x v hN e hv;have fin:EP X pins σ Q u s:=⟨v,H,I,r,h⟩;rcases l with ⟨hk,hm⟩|⟨hk,c,hc,hcell⟩
 ·exact iZ (wpAny_loadName_local I.ok.kind hk hn hm fin) hd
 ·rcases hk with hk|hk
  ·exact iZ (wpAny_loadName_cell I.ok.kind hk hc hcell fin) hd
  ·exact iZ (wpAny_loadName_free I.ok.kind hk hc hcell fin hcd) hd
theorem Ep{i j pos}:PE X (.Constant (.int i) j pos) (tC (.int i)):=λ_ _ _ H _ I h=>wpAny_Constant_int ⟨.int i,H,I.tok _,⟨_,rfl⟩,h⟩
theorem Nr{b j pos}:PE X (.Constant (.bool b) j pos) (tC (.bl b)):=λ_ _ _ H _ I h=>Constant_bool ⟨.bl b,H,I,rfl,h⟩
theorem J4{j pos}:PE X (.Constant .none j pos) (tC .non):=λ_ _ _ H _ I h=>Constant_none ⟨.non,H,I,rfl,h⟩
theorem J7{x j pos}:PE X (.Constant (.str x) j pos) (tC (.str x)):=λ_ _ _ H _ I h=>Calls.Constant_str ⟨.str x,H,I.tok _,⟨_,rfl⟩,h⟩
def Gl(X:Cx)(x:Str):Prop:=X.env.kindOf x=some .globalImplicit
theorem sQ{s:ae}{H:Hp}(I:Inv X pins σ H s)(hg:Gl X x)(hm:X.mg x=some u)(h:Q u s)
  (hd:(x==("__debug__" : Str))=false:=by decide):af (model X.prog X.w) X.A (eval (.Name x pos) X.env) Q E s:=
 jb I.ok.kind hg (Calls.loadGlobal_global (by rw[I.ok.glob];exact I.mod.glob.keeps I.bk) hm h) hd
theorem uU{s:ae}{H:Hp}(I:Inv X pins σ H s)(hg:Gl X x)(hm:X.mg x=none)(hv:cQ x=some u)(h:Q u s)
  (hn:x≠"__name__" := by decide) (hd:(x==("__debug__" : Str))=false:=by decide):af (model X.prog X.w) X.A (eval (.Name x pos) X.env) Q E s:=by
 obtain⟨mb,h1,h2⟩:=I.mod.blt;exact jb I.ok.kind hg (Calls.loadGlobal_builtin (by rw[I.ok.glob];exact I.mod.glob.keeps I.bk) hm (by rw[I.ok.blt];exact h1.keeps I.bk) ((h2 x hn).trans hv) h) hd
theorem B7{v:V}(hg:Gl X x)(hm:X.mg x=some u)(r:RelV v u)(hd:(x==("__debug__" : Str))=false:=by decide):PE X (.Name x pos) (tC v):=
 λ_ _ _ H _ I h=>sQ I hg hm ⟨v,H,I,r,h⟩ hd
theorem GR{v:V}(hg:Gl X x)(hm:X.mg x=none)(hv:cQ x=some u)(r:RelV v u)(hn:x≠"__name__" := by decide)(hd:(x==("__debug__" : Str))=false:=by decide):PE X (.Name x pos) (tC v):=
 λ_ _ _ H _ I h=>uU I hg hm hv ⟨v,H,I,r,h⟩ hn hd
variable{a b:Expr}{ta tb:TE}{pos:Pos}
def PC(X:Cx)(op:eB)(a b:Expr)(t:TE):Prop:=
 ∀(pins:List (Addr×Obj)) (s:ae) (σ:St) (H:Hp) (Q:VK),Inv X pins σ H s->t σ H Q->
  af (model X.prog X.w) X.A (eval a X.env) (λv s₁=>af (model X.prog X.w) X.A (eval b X.env) (λu s₂=>af (model X.prog X.w) X.A (aU op v u) (EP X pins σ Q) X.xe s₂) X.xe s₁) X.xe s
def tB(t:TE):TT:=λσ H Q=>t σ H λx H1=>∃c,x=.bl c/\Q c H1
theorem OZ(h:PC X op a b t)(h1:d5 op b=false:=by first|exact nobehind _ (by decide) (by decide)|rfl):PT X (.Compare a [op] [b] pos) (tB t):=by intro pins s σ H Q I hw;refine jv (thn (h pins s σ H _ I hw) λv s1 h1=>thn h1 λu s2 h2=>thn h2 λc s3 zz=>?_) h1;obtain⟨x,H1,I1,r1,q1⟩:=zz;obtain⟨d,rfl,q⟩:=q1;cases r1;exact cn ⟨H1,I1,q⟩
theorem J8(h:PE X e t)(he:∀whole,isTrue e X.env whole=(do let v<-whole;standAt e.pos;holding [v] (truthy v)):=by intro _;rfl):PT X e (tB t):=by intro pins s σ H Q I hw;refine isTrue_plain (thn (h pins s σ H _ I hw) λv s1 zz=>?_) (he _);obtain⟨x,H1,I1,r1,q1⟩:=zz;obtain⟨d,rfl,q⟩:=q1;cases r1;exact cn ⟨H1,I1,q⟩
variable{tA tB':TT}{rest:List Expr}
def tOr(t u:TT):TT:=λσ H Q=>t σ H λc H1=>if c=true then Q true H1 else u σ H1 Q
def O0(t:TT):TT:=λσ H Q=>t σ H λc H1=>Q (!c) H1
theorem J9(ha:PT X a tA):PW X (.BoolOp .Or [a] pos) tA:=by
 intro wh pins s σ H Q I h;refine isTrue_or (thn (ha pins s σ H Q I h) λc s1 e=>?_);cases c with
 |false=>exact isTrue_or_nil e
 |true=>exact e
theorem Nt(ha:PT X a tA)(hb:PW X (.BoolOp .Or (b::rest) pos) tB'):PW X (.BoolOp .Or (a::b::rest) pos) (tOr tA tB'):=by
 intro wh pins s σ H Q I h;refine isTrue_or (thn (ha pins s σ H _ I h) λc s1 zz=>?_);obtain⟨H1,I1,q1⟩:=zz;cases c with
 |true=>exact⟨H1,I1,q1⟩
 |false=>exact hb wh pins s1 σ H1 Q I1 q1
theorem Ka(ha:PT X a tA):PT X (.UnaryOp .Not a pos) (O0 tA):=by intro pins s σ H Q I h;exact isTrue_not (ha pins s σ H (λc H1=>Q (!c) H1) I h)
def Nu(ta tb:TE):TE:=λσ H Q=>ta σ H λx H1=>∃c,x=.bl c/\if c=true then tb σ H1 Q else Q (.bl false) H1
def O1(ta tb:TE):TE:=λσ H Q=>ta σ H λx H1=>∃c,x=.bl c/\if c=true then Q (.bl true) H1 else tb σ H1 Q
def Nv(ta:TE):TE:=λσ H Q=>ta σ H λx H1=>∃c,x=.bl c/\Q (.bl (!c)) H1
theorem Kb{op}(h:PE X a t):PE X (.BoolOp op [a] pos) t:=λpins s σ H Q I hw=>BoolOp_one (h pins s σ H Q I hw)
theorem Kc(ha:PE X a ta)(hb:PE X (.BoolOp .And (b::rest) pos) tb):PE X (.BoolOp .And (a::b::rest) pos) (Nu ta tb):=by
 intro pins s σ H Q I h;refine BoolOp_and (thn (ha pins s σ H _ I h) λv s1 zz=>?_);obtain⟨x,H1,I1,r1,q1⟩:=zz;obtain⟨c,rfl,q1⟩:=q1;cases r1;refine cn ?_;cases c with
 |true=>exact hb pins s1 σ H1 Q I1 q1
 |false=>exact⟨.bl false,H1,I1,rfl,q1⟩
theorem Nw(ha:PE X a ta)(hb:PE X (.BoolOp .Or (b::rest) pos) tb):PE X (.BoolOp .Or (a::b::rest) pos) (O1 ta tb):=by
 intro pins s σ H Q I h;refine BoolOp_or (thn (ha pins s σ H _ I h) λv s1 zz=>?_);obtain⟨x,H1,I1,r1,q1⟩:=zz;obtain⟨c,rfl,q1⟩:=q1;cases r1;refine cn ?_;cases c with
 |false=>exact hb pins s1 σ H1 Q I1 q1
 |true=>exact⟨.bl true,H1,I1,rfl,q1⟩
theorem Ke(ha:PE X a ta):PE X (.UnaryOp .Not a pos) (Nv ta):=by intro pins s σ H Q I h;refine UnaryOp_ (thn (ha pins s σ H _ I h) λv s1 zz=>?_);obtain⟨x,H1,I1,r1,q1⟩:=zz;obtain⟨c,rfl,q1⟩:=q1;cases r1;exact not_of (cn ⟨.bl (!c),H1,I1,rfl,q1⟩)
def tIf(t:TT)(ta tb:TE):TE:=λσ H Q=>t σ H λc H1=>if c=true then ta σ H1 Q else tb σ H1 Q
theorem Er(hc:PT X c tA)(ha:PE X a ta)(hb:PE X b tb):PE X (.IfExp c a b pos) (tIf tA ta tb):=by
 intro pins s σ H Q I h;refine wpAny_IfExp (thn (hc pins s σ H _ I h) λd s1 zz=>?_);obtain⟨H1,I1,q1⟩:=zz;cases d with
 |true=>exact ha pins s1 σ H1 Q I1 q1
 |false=>exact hb pins s1 σ H1 Q I1 q1
end
def SqL(K:aj)(H:Hp)(a:Addr)(xs:List V):Prop:=
 Rd H a (.lst xs)\/
  ∃(o:Obj) (its:Array aa) (n:Nat),K.lookup a=some o/\o.cls=.type "list" /\ o.dict=none/\o.data=.seq its n/\its.size<=az/\Vals xs its.toList
def SqT(K:aj)(H:Hp)(a:Addr)(xs:List V):Prop:=
 Rd H a (.tup xs)\/
  ∃(o:Obj) (its:Array aa) (n:Nat),K.lookup a=some o/\o.cls=.type "tuple" /\ o.data=.seq its n/\its.size<=az/\Vals xs its.toList
def O2:aa->Option V
 |.none=>some .non
 |.bool b=>some (.bl b)
 |.int i _=>some (.int i)
 |.str x _=>some (.str x)
 |.bytes b _=>some (.byt b)
 |.float b _=>some (.flt b)
 |.ref a=>some (.ref a)
 |.type n=>some (.ty n)
 |_=>none
theorem RelV.abs{x:V}(r:RelV x u):O2 u=some x:=by
 cases x with
 |non=>cases r;rfl
 |bl _=>cases r;rfl
 |int _=>obtain⟨t,rfl⟩:=r;rfl
 |str _=>obtain⟨t,rfl⟩:=r;rfl
 |byt _=>obtain⟨t,rfl⟩:=r;rfl
 |flt _=>obtain⟨t,rfl⟩:=r;rfl
 |ref _=>cases r;rfl
 |ty _=>cases r;rfl
variable{y:V}
theorem RelV.inj{x:V}(r:RelV x u)(q:RelV y u):x=y:=bT (r.abs.symm.trans q.abs)
theorem Vals.inj:∀{xs ys:List V} {us:List aa},Vals xs us->Vals ys us->xs=ys
 |_,_,_,.nil,.nil=>rfl
 |_,_,_,.cons r t,.cons r' t'=>by rw[r.inj r',Vals.inj t t']
section
variable{X:Cx}{pins:List (Addr×Obj)}{σ:St}{H:Hp}{s:ae}{a:Addr}{xs ys:List V}
theorem SqL.of{K:aj}(h:H a=some (.lst xs)):SqL K H a xs:=.inl (.inl h)
theorem SqT.of{K:aj}(h:H a=some (.tup xs)):SqT K H a xs:=.inl (.inl h)
theorem Inv.list(I:Inv X pins σ H s)(h:SqL X.K H a xs):∃its:List aa,Vals xs its/\PlainL s.heap a its.toArray/\xs.length<=az:=by
 rcases h with h|⟨o,its,n,hk,hc,hd,hs,hz,r⟩
 ·obtain⟨z,its,n,r,e⟩:=h.ok I.hok;exact⟨its,r,⟨_,n,e,rfl,rfl,rfl⟩,z⟩
 ·refine⟨its.toList,r,⟨o,n,I.kIn a o hk,hc,hd,by simpa using hs⟩,?_⟩;have e:=r.length;simp only[bR]at e;omega
theorem Inv.tuple(I:Inv X pins σ H s)(h:SqT X.K H a xs):∃its:List aa,Vals xs its/\IsTup s.heap a its.toArray/\xs.length<=az:=by
 rcases h with h|⟨o,its,n,hk,hc,hs,hz,r⟩
 ·obtain⟨z,its,r,p⟩:=h.ok I.hok;exact⟨its,r,p,z⟩
 ·refine⟨its.toList,r,⟨o,I.kIn a o hk,hc,n,by simpa using hs⟩,?_⟩;have e:=r.length;simp only[bR]at e;omega
theorem Inv.list_inj(I:Inv X pins σ H s)(h:SqL X.K H a xs)(h':SqL X.K H a ys):xs=ys:=by
 obtain⟨its,r,⟨o,n,e,_,_,d⟩,_⟩:=I.list h;obtain⟨its',r',⟨o',n',e',_,_,d'⟩,_⟩:=I.list h';rw[e]at e';cases e';rw[d]at d';injection d' with d1 _;have:its=its':=by simpa using aL kQ d1
 subst this;exact r.inj r'
theorem Inv.tuple_inj(I:Inv X pins σ H s)(h:SqT X.K H a xs)(h':SqT X.K H a ys):xs=ys:=by
 obtain⟨its,r,⟨o,e,_,n,d⟩,_⟩:=I.tuple h;obtain⟨its',r',⟨o',e',_,n',d'⟩,_⟩:=I.tuple h';rw[e]at e';cases e';rw[d]at d';injection d' with d1 _;have:its=its':=by simpa using aL kQ d1
 subst this;exact r.inj r'
end
abbrev Cx.wish(X:Cx)(E:aa->ae->Prop):Cx:={ X with xe:=E }
abbrev Cx.nox(X:Cx):Cx:=X.wish λ_ _=>False
theorem Cx.Ok.wish(ok:X.Ok)(E:aa->ae->Prop):(X.wish E).Ok:=
 ⟨ok.mod,ok.kind,ok.glob,ok.blt,ok.above,ok.inj,ok.has,ok.cab,ok.hd,ok.frames,ok.stk,ok.exf,ok.bs,ok.bsz,ok.noex,ok.exfs,ok.funs,ok.frf⟩
theorem Cx.Ok.unwish(ok:(X.wish E).Ok):X.Ok:=
 ⟨ok.mod,ok.kind,ok.glob,ok.blt,ok.above,ok.inj,ok.has,ok.cab,ok.hd,ok.frames,ok.stk,ok.exf,ok.bs,ok.bsz,ok.noex,ok.exfs,ok.funs,ok.frf⟩
section
variable{X:Cx}{pins:List (Addr×Obj)}{σ:St}{H:Hp}{s:ae}{E:aa->ae->Prop}
theorem Inv.wish(I:Inv X pins σ H s)(E:aa->ae->Prop):Inv (X.wish E) pins σ H s:=⟨I.ok.wish E,I.os,I.bare,I.base,I.loc,I.cell,I.free,I.freeC,I.pin,I.hok,I.len⟩
theorem Inv.unwish(I:Inv (X.wish E) pins σ H s):Inv X pins σ H s:=⟨I.ok.unwish,I.os,I.bare,I.base,I.loc,I.cell,I.free,I.freeC,I.pin,I.hok,I.len⟩
theorem SP.unwish{D:Ends}{f:Flow}(h:SP (X.wish E) pins D f s'):SP X pins D f s':=by
 cases f with
 |next=>obtain⟨σ',H',I,q⟩:=h;exact⟨σ',H',I.unwish,q⟩
 |brk=>obtain⟨σ',H',I,q⟩:=h;exact⟨σ',H',I.unwish,q⟩
 |cont=>obtain⟨σ',H',I,q⟩:=h;exact⟨σ',H',I.unwish,q⟩
 |ret u=>obtain⟨v,σ',H',I,r,q⟩:=h;exact⟨v,σ',H',I.unwish,r,q⟩
theorem PSs.nox{st:List Stmt}{t:TS}(h:PSs X.nox st t):PSs X st t:=λpins s σ H D I hw=>
 br (h pins s σ H D (I.wish _) hw) (λ_ _ q=>q.unwish) λ_ _ z=>bQ z
end
section
variable{X:Cx}{st:Stmt}{rest:List Stmt}{t u:TS}{e:Expr}{te:TE}{pos:Pos}
def Nx:TS:=λD σ H=>D.nx σ H
def O3(t u:TS):TS:=λD σ H=>t { D with nx:=u D } σ H
theorem B8:PSs X [] Nx:=λ_ _ σ H _ I h=>fJ ⟨σ,H,I,h⟩
theorem ve(h1:PS X st t)(h2:PSs X rest u):PSs X (st::rest) (O3 t u):=by
 intro pins s σ H D I h;refine iu (thn (h1 pins s σ H { D with nx:=u D } I h) λf s1 q=>?_);cases f with
 |next=>obtain⟨σ',H',I',q⟩:=q;exact h2 pins s1 σ' H' D I' q
 |ret v=>exact q
 |brk=>exact q
 |cont=>exact q
theorem xm(h1:PS X st t):PSs X [st] t:=by
 intro pins s σ H D I h;refine iu (thn (h1 pins s σ H D I h) λf s1 q=>?_);cases f with
 |next=>exact fJ q
 |ret v=>exact q
 |brk=>exact q
 |cont=>exact q
theorem Inv.quiet{H:Hp}{s:ae}(I:Inv X pins σ H s):interactive X.env=false:=by simp[interactive,I.ok.kind]
def Es(te:TE):TS:=λD σ H=>te σ H λ_ H1=>D.nx σ H1
theorem zG(he:PE X e te)(hs:b9 e none pos.line X.env=pure false:=by rfl):PS X (.Expr e pos) (Es te):=by intro pins s σ H D I h;exact kr (thn (he pins s σ H _ I h) λv s1 ⟨x,H1,I1,r1,q1⟩=>⟨σ,H1,I1,q1⟩) I.quiet hs
def Ny(te:TE):TS:=λD σ H=>te σ H D.rt
theorem Bl(he:PE X e te):PS X (.Return (some e) pos) (Ny te):=by intro pins s σ H D I h;exact wpAny_Return_some (thn (he pins s σ H _ I h) λv s1 ⟨x,H1,I1,r1,q1⟩=>⟨x,σ,H1,I1,r1,q1⟩)
def O4(c:TT)(t u:TS):TS:=λD σ H=>c σ H λb H1=>if b=true then t D σ H1 else u D σ H1
theorem Jp{a b:List Stmt}{tc:TT}(hc:PT X c tc)(ha:PSs X a t)(hb:PSs X b u):PS X (.If c a b pos) (O4 tc t u):=by
 intro pins s σ H D I h;refine wpAny_If (thn (hc pins s σ H _ I h) λd s1 zz=>?_);obtain⟨H1,I1,q1⟩:=zz;cases d with
 |true=>exact ha pins s1 σ H1 D I1 q1
 |false=>exact hb pins s1 σ H1 D I1 q1
end
abbrev TG:=V->St->Hp->(St->Hp->Prop)->Prop
abbrev TGs:=List V->St->Hp->(St->Hp->Prop)->Prop
def PG(X:Cx)(target:Expr)(t:TG):Prop:=
 ∀(pins:List (Addr×Obj)) (s:ae) (σ:St) (H:Hp) (v:V) (u:aa) (Q:St->Hp->Prop),Inv X pins σ H s->RelV v u->t v σ H Q->
  af (model X.prog X.w) X.A (assign target X.env u) (λ_ s'=>∃σ' H',Inv X pins σ' H' s'/\Q σ' H') X.xe s
def PGs(X:Cx)(ts:List Expr)(t:TGs):Prop:=
 ∀(pins:List (Addr×Obj)) (s:ae) (σ:St) (H:Hp) (vs:List V) (us:List aa) (Q:St->Hp->Prop),Inv X pins σ H s->Vals vs us->t vs σ H Q->
  af (model X.prog X.w) X.A (assignInOrder ((bU ts X.env).map (·.2)) us) (λ_ s'=>∃σ' H',Inv X pins σ' H' s'/\Q σ' H') X.xe s
abbrev Kg:=V->V->V->Hp->(Hp->Prop)->Prop
def NA(X:Cx)(t:Kg):Prop:=
 ∀(pins:List (Addr×Obj)) (s:ae) (σ:St) (H:Hp) (o i v:V) (ov iv u:aa) (Q:Hp->Prop),Inv X pins σ H s->RelV o ov->RelV i iv->RelV v u->t o i v H Q->
  af (model X.prog X.w) X.A (setItem ov iv u) (λ_ s'=>∃H',Inv X pins σ H' s'/\Q H') X.xe s
variable{es:List Expr}{tg:Expr}{te:TE}
section
variable{X:Cx}{pos:Pos}
def r9(i:Nat):TG:=λv σ H Q=>Q (σ.set i (some v)) H
theorem B9{i:Nat}(hN:X.N.Nodup)(hi:X.N[i]?=some x)(hx:Loc X.env.scope x)(hf:X.fn x=true\/X.env.scope.names.lookup x=some .local:=by first|exact .inl rfl|exact .inr rfl|assumption):PG X (.Name x pos) (r9 i):=by intro pins s σ H v u Q I r h;exact wpAny_assign_Name (Ao I hN hi hx r (λs' I'=>⟨_,H,I',h⟩) hf)
def NB:TGs:=λvs σ H Q=>vs=[]/\Q σ H
def Jq(t:TG)(u:TGs):TGs:=λvs σ H Q=>∃v r,vs=v::r/\t v σ H λσ' H'=>u r σ' H' Q
theorem GT:PGs X [] NB:=by intro pins s σ H vs us Q I r h;obtain⟨e,h⟩:=h;subst e;cases r;exact assignInOrder_nil ⟨σ,H,I,h⟩
theorem Et{t:TG}{u:TGs}(h1:PG X e t)(h2:PGs X es u)
  (hs:(bU (e::es) X.env).map (·.2)=assign e X.env::(bU es X.env).map (·.2):=by rfl):PGs X (e::es) (Jq t u):=by
 intro pins s σ H vs us Q I r h;obtain⟨v,vr,e1,h⟩:=h;subst e1;cases r with
 |cons r rr=>rw[hs];refine assignInOrder_cons (thn (h1 pins s σ H _ _ _ I r h) λ_ s1 zz=>?_);obtain⟨σ1,H1,I1,q1⟩:=zz;exact h2 pins s1 σ1 H1 _ _ Q I1 rr q1
def Kh(K:aj)(n:Nat)(t:TGs):TG:=λv σ H Q=>∃a xs,v=.ref a/\SqT K H a xs/\xs.length=n/\t xs σ H Q
theorem Ki{k:Nat}{t:TGs}{n:Nat}(hc:X.calm=true)(h:PGs X es t)
  (hn:(bU es X.env).length=n:=by rfl) (hst:(bU es X.env).findIdx? (·.1)=none:=by rfl):PG X (.Tuple es k pos) (Kh X.K n t):=by
 intro pins s σ H v u Q I r hw;obtain⟨a,xs,e1,hq,hl,hw⟩:=hw;subst e1;cases r;obtain⟨its,rv,ht,hz⟩:=I.tuple hq;refine assign_Tuple_tuple (I.ok.hd hc) ht (by simp[hn,<- hl,rv.length]) hst λh' hx=>?_;have I1:Inv X pins σ H { s with heap:=h' }:=I.kept (t':=s.toks) λb o e=>hx b o (aR (aF e)) e;exact h pins _ σ H xs _ Q I1 (by simpa using rv) hw
def Kj(to ti:TE)(t:Kg):TG:=λv σ H Q=>to σ H λo H1=>ti σ H1 λi H2=>t o i v H2 λH3=>Q σ H3
theorem Eu{o i:Expr}{to ti:TE}{t:Kg}(ho:PE X o to)(hi:PE X i ti)(hs:NA X t)
  (ha:∀v,assign (.Subscript o i pos) X.env v=(do
   let ov<-holding [v] (eval o X.env);let iv<-holding [v,ov] (eval i X.env)
   standAt pos
   holding [v,ov,iv] (setItem ov iv v)
   release [v,ov,iv] []):=by intro _;rfl):PG X (.Subscript o i pos) (Kj to ti t):=by
 intro pins s σ H v u Q I r h;rw[ha];refine au (de (thn (ho pins s σ H _ I h) λov s1 zz=>?_));obtain⟨x,H1,I1,r1,q1⟩:=zz;refine au (de (thn (hi pins s1 σ H1 _ I1 q1) λiv s2 zz=>?_));obtain⟨y,H2,I2,r2,q2⟩:=zz;refine au (iF (au (de (thn (hs pins s2 σ H2 x y v ov iv u _ I2 r1 r2 r q2) λ_ s3 zz=>?_))));obtain⟨H3,I3,q3⟩:=zz;exact wpAny_release ⟨σ,H3,I3,q3⟩
def uD(te:TE)(g:TG):TS:=λD σ H=>te σ H λx H1=>g x σ H1 D.nx
theorem Bm{g:TG}(he:PE X e te)(hg:PG X tg g)(hs:swapsWithSole [tg] e pos.line X.env=pure false:=by rfl)(hw:swappedStores [tg] e X.env=pure none:=by rfl)
  (h1:(bU [tg] X.env).map (·.2)=[assign tg X.env]:=by rfl):PS X (.Assign [tg] e pos) (uD te g):=by
 intro pins s σ H D I h;refine wpAny_Assign_stores (thn (he pins s σ H _ I h) λv s1 zz=>?_) hs hw;obtain⟨x,H1,I1,r1,q1⟩:=zz;rw[h1];exact thn (hg pins s1 σ H1 x v _ I1 r1 q1) λ_ s2 q=>q
theorem Kk{i:Nat}{pos':Pos}(hN:X.N.Nodup)(hi:X.N[i]?=some x)(hx:Loc X.env.scope x)(he:PE X e te)(hs:b9 e (some (.Name x pos')) pos.line X.env=pure false:=by rfl)(hf:X.fn x=true\/X.env.scope.names.lookup x=some .local:=by first|exact .inl rfl|exact .inr rfl|assumption):
  PS X (.Assign [.Name x pos'] e pos) (uD te (r9 i)):=by
 intro pins s σ H D I h;refine wpAny_Assign_Name (thn (he pins s σ H _ I h) λv s1 zz=>?_) hs;obtain⟨y,H1,I1,r1,q1⟩:=zz;exact Ao I1 hN hi hx r1 (λs2 I2=>⟨_,H1,I2,q1⟩) hf
end
structure It where
 go:Nat->Hp->Prop
 yld:Nat->Hp->V->Hp->Prop
 stop:Nat->Hp->Prop
def zH(X:Cx)(pins:List (Addr×Obj))(H:Hp)(b:Addr):Prop:=
 H b=none/\b≠X.env.locals/\b∉X.fs/\(b∈X.ex\/X.s₀.heap.objs.size<=b)/\(∀x c,X.env.cells.lookup x=some c->c≠b)/\∀p∈X.pn++pins,p.1≠b
theorem Inv.fpOk{H H':Hp}{s:ae}(I:Inv X pins σ H s)(hb:s.heap.objs.size<=b)(hn:H' b=none):zH X pins H' b:=by
 refine⟨hn,iJ (bN I.lt hb),I.nofs hb,.inr (bH I.sz hb),λx c e z=>?_,λp hp z=>?_⟩
 ·obtain⟨v,q⟩:=I.cell x c e;exact ak (bN q.lt (by rw[z];exact hb)) (dG _)
 ·exact ak (bN (aF (I.pin p hp).1) (by rw[z];exact hb)) (dG _)
structure Turn(P:aq)(w:ao)(K:aj)(tg:Expr)(J:It)(fp:List Addr)(it:Addr)(tn:Nat->Heap->Prop):Prop where
 mem:it∈fp
 obj:∀i h,tn i h->∀b∈fp,∃o,h.get? b=some o/\∀v,o.data≠.cell v
 keep:∀i h h',tn i h->(∀b∈fp,∀o,h.get? b=some o->h'.get? b=some o)->tn i h'
 item:∀(X:Cx),X.prog=P->X.w=w->X.K=K->X.calm=true->∀(i:Nat) (pins:List (Addr×Obj)) (s:ae) (σ:St) (H:Hp) (E:aa->ae->Prop),Inv X pins σ H s->(∀b∈fp,zH X pins H b)->tn i s.heap->J.go i H->
  af (model P w) X.A (pyNext (.ref it)) (λr s1=>∃u,r=some u/\
   af (model P w) X.A (eF tg (.ref it) u) (λ_ s2=>∃x H',Inv X pins σ H' s2/\RelV x u/\J.yld i H x H'/\tn (i+1) s2.heap/\∀b∈fp,H' b=none) E s1) E s
 done:∀(X:Cx),X.prog=P->X.w=w->X.K=K->X.calm=true->∀(i:Nat) (pins:List (Addr×Obj)) (s:ae) (σ:St) (H:Hp) (E:aa->ae->Prop),Inv X pins σ H s->(∀b∈fp,zH X pins H b)->tn i s.heap->J.stop i H->
  af (model P w) X.A (pyNext (.ref it)) (λr s1=>r=none/\Inv X pins σ H s1) E s
 self:∀(A:ay) (i:Nat) (s:ae) (Q:aa->ae->Prop) (E:aa->ae->Prop),tn i s.heap->Q (.ref it) s->af (model P w) A (pyIter (.ref it)) Q E s
abbrev TI:=St->Hp->(It->Hp->Prop)->Prop
def PIE(X:Cx)(pins:List (Addr×Obj))(σ:St)(tg:Expr)(R:It->Hp->Prop)(itv:aa)(s2:ae):Prop:=
 ∃(it:Addr) (fp:List Addr) (tn:Nat->Heap->Prop) (J:It) (H':Hp),itv=.ref it/\Inv X pins σ H' s2/\Turn X.prog X.w X.K tg J fp it tn/\tn 0 s2.heap/\(∀b∈fp,zH X pins H' b)/\R J H'
def PI(X:Cx)(tg iter:Expr)(wi:TI):Prop:=
 ∀(pins:List (Addr×Obj)) (s:ae) (σ:St) (H:Hp) (R:It->Hp->Prop),Inv X pins σ H s->wi σ H R->
  af (model X.prog X.w) X.A (eval iter X.env) (λv s1=>af (model X.prog X.w) X.A (pyIter v) (PIE X pins σ tg R) X.xe s1) X.xe s
theorem Ca{A:ay}{s:ae}{o:Obj}{n:String}{vs:Array aa}{Q:Unit->ae->Prop}(ho:s.heap.get? it=some o)(hc:o.cls=.type n)(hd:o.data=.fields vs)
  (hn:["enumerate", "zip", "dict_itemiterator", "dict_reverseitemiterator", "odict_iterator", "itertools.zip_longest", "itertools.pairwise"].contains n=false) (hQ:Q () s):af M A (eF tg (.ref it) u) Q E s:=by
 unfold eF;cases tg<;>first
  |exact aD hQ
  |(cases u<;>first
    |exact aD hQ
    |(refine au (wpAny_load ho ?_)
      rw[hc,hd];show af M A (if (["enumerate", "zip", "dict_itemiterator", "dict_reverseitemiterator", "odict_iterator", "itertools.zip_longest", "itertools.pairwise"].contains n&&vs[0]?==some (rawInt _))=true then _ else _) Q E s;rw[ah (by intro h;rw[hn,iA]at h;cases h)];exact aD hQ))
def Itl(K:aj)(a:Addr):It:=
 ⟨λi H=>∃xs x,SqL K H a xs/\xs[i]?=some x,λi H x H'=>H'=H/\∀xs,SqL K H a xs->xs[i]?=some x,λi H=>∃xs,SqL K H a xs/\xs.length<=i⟩
def Itt(K:aj)(a:Addr):It:=
 ⟨λi H=>∃xs x,SqT K H a xs/\xs[i]?=some x,λi H x H'=>H'=H/\∀xs,SqT K H a xs->xs[i]?=some x,λi H=>∃xs,SqT K H a xs/\xs.length<=i⟩
def Itr(lo:Int)(n:Nat):It:=⟨λi _=>i<n,λi H x H'=>H'=H/\x=.int (lo+i),λi _=>n<=i⟩
theorem DA{P:aq}{w:ao}{K:aj}(a it:Addr):Turn P w K tg (Itl K a) [it] it (λi h=>h.IsListIter it a i) where
 mem:=by simp
 obj:=λi h st b hb=>by
  have e:b=it:=by simpa using hb
  subst e;obtain⟨o,e,c,d⟩:=st;exact⟨o,e,λv z=>by rw[d]at z;cases z⟩
 keep:=λi h h' st k=>st.at λo e=>k it (by simp) o e
 item:=by intro X hP hw hK hc i pins s σ H E I hf st hg;subst hP hw hK;obtain⟨xs,x,hq,hx⟩:=hg;obtain⟨its,rv,p,hz⟩:=I.list hq;obtain⟨u,hu,ru⟩:=rv.get hx;obtain⟨f0,f1,f2,f3,f4,f5⟩:=hf it (by simp);refine wpAny_pyNext_list_item st p.isList (x:=u) (by simpa using hu) λh' st' sb=>?_;have I1:Inv X pins σ H { s with heap:=h' }:=I.turned (t':=s.toks) (λb o hb e=>(sb.2 b hb).trans e) f0 f1 f3 f4 f5;obtain⟨o,e,c,d⟩:=id st';exact⟨u,rfl,Ca (s:={ s with heap:=h' }) e c d (by decide) ⟨x,H,I1,ru,⟨rfl,λys hy=>by rw[I.list_inj hy hq];exact hx⟩,st',λb hb=>(hf b hb).1⟩⟩
 done:=by intro X hP hw hK hc i pins s σ H E I hf st hg;subst hP hw hK;obtain⟨xs,hq,hx⟩:=hg;obtain⟨its,rv,p,hz⟩:=I.list hq;obtain⟨f0,f1,f2,f3,f4,f5⟩:=hf it (by simp);have hl:=rv.length;exact wpAny_pyNext_list_end (I.ok.hd hc) st p.isList (by simp;omega) λh' eb=>⟨rfl,I.turned (t':=s.toks) (λb o hb e=>eb b o hb e) f0 f1 f3 f4 f5⟩
 self:=λ_ _ _ _ _ st h=>wpAny_pyIter_listiter st h
theorem Bn{P:aq}{w:ao}{K:aj}(a it:Addr):Turn P w K tg (Itt K a) [it] it (λi h=>h.IsTupleIter it a i) where
 mem:=by simp
 obj:=λi h st b hb=>by
  have e:b=it:=by simpa using hb
  subst e;obtain⟨o,e,c,d⟩:=st;exact⟨o,e,λv z=>by rw[d]at z;cases z⟩
 keep:=λi h h' st k=>st.at λo e=>k it (by simp) o e
 item:=by intro X hP hw hK hc i pins s σ H E I hf st hg;subst hP hw hK;obtain⟨xs,x,hq,hx⟩:=hg;obtain⟨its,rv,p,hz⟩:=I.tuple hq;obtain⟨u,hu,ru⟩:=rv.get hx;obtain⟨f0,f1,f2,f3,f4,f5⟩:=hf it (by simp);refine wpAny_pyNext_tuple_item st (show s.heap.IsTuple a its.toArray from p) (x:=u) (by simpa using hu) λh' st' sb=>?_;have I1:Inv X pins σ H { s with heap:=h' }:=I.turned (t':=s.toks) (λb o hb e=>(sb.2 b hb).trans e) f0 f1 f3 f4 f5;obtain⟨o,e,c,d⟩:=id st';exact⟨u,rfl,Ca (s:={ s with heap:=h' }) e c d (by decide) ⟨x,H,I1,ru,⟨rfl,λys hy=>by rw[I.tuple_inj hy hq];exact hx⟩,st',λb hb=>(hf b hb).1⟩⟩
 done:=by intro X hP hw hK hc i pins s σ H E I hf st hg;subst hP hw hK;obtain⟨xs,hq,hx⟩:=hg;obtain⟨its,rv,p,hz⟩:=I.tuple hq;obtain⟨f0,f1,f2,f3,f4,f5⟩:=hf it (by simp);have hl:=rv.length;exact wpAny_pyNext_tuple_end (I.ok.hd hc) st (show s.heap.IsTuple a its.toArray from p) (by simp;omega) λh' eb=>⟨rfl,I.turned (t':=s.toks) (λb o hb e=>eb b o hb e) f0 f1 f3 f4 f5⟩
 self:=λ_ _ _ _ _ st h=>wpAny_pyIter_tupleiter st h
theorem Bo{P:aq}{w:ao}{K:aj}(it:Addr)(lo:Int)(n:Nat):Turn P w K tg (Itr lo n) [it] it (λi h=>IsRangeIter h it (lo+(i:Nat) * 1) ((n:Int) - (i:Nat)) 1) where
 mem:=by simp
 obj:=λi h st b hb=>by
  have e:b=it:=by simpa using hb
  subst e;exact⟨_,st,λv z=>by
   have z':Data.fields _=Data.cell v:=z;cases z'⟩
 keep:=λi h h' st k=>k it (by simp) _ st
 item:=by intro X hP hw hK hc i pins s σ H E I hf st hg;subst hP hw hK;obtain⟨f0,f1,f2,f3,f4,f5⟩:=hf it (by simp);have W:=Walks.range (prog:=X.prog) (w:=X.w) (I.ok.hd hc) it lo 1 n;refine W.item i s _ _ hg st λv h' tk hv st' kk=>?_;obtain⟨t,rfl⟩:=hv;have I1:Inv X pins σ H { s with heap:=h',toks:=tk }:=I.turned (λb o hb e=>kk b o (by simpa using hb) e) f0 f1 f3 f4 f5;refine⟨_,rfl,Ca (s:={ s with heap:=h',toks:=tk }) (n:="range_iterator") st' rfl rfl (by decide) ⟨.int (lo+i),H,I1,⟨t,?_⟩,⟨rfl,rfl⟩,st',λb hb=>(hf b hb).1⟩⟩;rw[Int.mul_one]
 done:=by intro X hP hw hK hc i pins s σ H E I hf st hg;subst hP hw hK;obtain⟨f0,f1,f2,f3,f4,f5⟩:=hf it (by simp);exact wpAny_pyNext_range_end (I.ok.hd hc) st (by have:n<=i:=hg;omega) λh' eb=>⟨rfl,I.turned (t':=s.toks) (λb o hb e=>eb b o hb e) f0 f1 f3 f4 f5⟩
 self:=λ_ _ _ _ _ st h=>wpAny_pyIter_rangeiter st h
variable{l:Expr}{tl:TE}{ta:TA}{p:Pos}{body:List Stmt}
section
variable{X:Cx}{tg:Expr}
def Ew(K:aj)(tl:TE):TI:=λσ H R=>tl σ H λx H1=>∃a,x=.ref a/\(∃xs,SqL K H1 a xs)/\R (Itl K a) H1
def Kl(K:aj)(tl:TE):TI:=λσ H R=>tl σ H λx H1=>∃a,x=.ref a/\(∃xs,SqT K H1 a xs)/\R (Itt K a) H1
theorem GU(hl:PE X l tl):PI X tg l (Ew X.K tl):=by
 intro pins s σ H R I h;refine thn (hl pins s σ H _ I h) λv s1 zz=>?_;obtain⟨x,H1,I1,r1,q1⟩:=zz;obtain⟨a,e,⟨xs,hq⟩,q⟩:=q1;subst e;cases r1;obtain⟨its,rv,p,hz⟩:=I1.list hq;refine fE p.isList ?_;refine⟨s1.heap.objs.size,[s1.heap.objs.size],_,_,H1,rfl,I1.kept (t':=s1.toks) λb o e=>aJ _ e,DA a _,⟨_,bx _ rfl,rfl,rfl⟩,λb hb=>?_,q⟩;have e:b=s1.heap.objs.size:=by simpa using hb
 subst e;exact I1.fpOk (aC _) (I1.hok.fresh (aC _))
theorem Km(hl:PE X l tl):PI X tg l (Kl X.K tl):=by
 intro pins s σ H R I h;refine thn (hl pins s σ H _ I h) λv s1 zz=>?_;obtain⟨x,H1,I1,r1,q1⟩:=zz;obtain⟨a,e,⟨xs,hq⟩,q⟩:=q1;subst e;cases r1;obtain⟨its,rv,p,hz⟩:=I1.tuple hq;refine ia (show s1.heap.IsTuple a its.toArray from p) ?_;refine⟨s1.heap.objs.size,[s1.heap.objs.size],_,_,H1,rfl,I1.kept (t':=s1.toks) λb o e=>aJ _ e,Bn a _,⟨_,bx _ rfl,rfl,rfl⟩,λb hb=>?_,q⟩;have e:b=s1.heap.objs.size:=by simpa using hb
 subst e;exact I1.fpOk (aC _) (I1.hok.fresh (aC _))
theorem Ap{H:Hp}{s:ae}{R:It->Hp->Prop}{lo hi:Int}{t u v:Tok}{tk:Nat}(I:Inv X pins σ H s)(h1:-(2 ^ 62)<=lo)(h2:lo<2 ^ 62)(h3:-(2 ^ 62)<=hi)(h4:hi<2 ^ 62)
  (q:R (Itr lo (hi - lo).toNat) H):af (model X.prog X.w) X.A (pyIter (.ref s.heap.objs.size)) (PIE X pins σ tg R) E { s with heap:=s.heap.push { cls:=.type "range", data:=.fields #[.int lo t,.int hi u,.int 1 v] },toks:=tk }:=by
 refine wpAny_pyIter_range (IsRange.new ..) (small_one h1 h2 h3 h4) ?_;have I1:Inv X pins σ H { s with heap:=s.heap.push { cls:=.type "range", data:=.fields #[.int lo t,.int hi u,.int 1 v] },toks:=tk }:=I.kept λb o e=>aJ _ e;refine⟨(s.heap.push { cls:=.type "range", data:=.fields #[.int lo t,.int hi u,.int 1 v] }).objs.size,[(s.heap.push { cls:=.type "range", data:=.fields #[.int lo t,.int hi u,.int 1 v] }).objs.size],_,_,H,rfl,
  I1.kept (t':=tk) λb o e=>aJ _ e,Bo _ lo (hi - lo).toNat,?_,λb hb=>?_,q⟩
 ·have e1:lo+((0:Nat):Int) * 1=lo:=by simp
  have e2:(((hi - lo).toNat:Nat):Int) - ((0:Nat):Int)=ml lo hi 1:=by rw[rangeSize_one];split<;>omega
  show IsRangeIter _ _ (lo+((0:Nat):Int) * 1) ((((hi - lo).toNat:Nat):Int) - ((0:Nat):Int)) 1;rw[e1,e2];exact bx _ rfl
 ·have e:b=(s.heap.push { cls:=.type "range", data:=.fields #[.int lo t,.int hi u,.int 1 v] }).objs.size:=by simpa using hb
  subst e;exact I1.fpOk (aC _) (I1.hok.fresh (aC _))
def Jr(ta:TA):TI:=λσ H R=>ta σ H λvs H1=>∃j:Int,vs=[.int j]/\-(2 ^ 62)<=j/\j<2 ^ 62/\R (Itr 0 j.toNat) H1
def Js(ta:TA):TI:=λσ H R=>ta σ H λvs H1=>∃i j:Int,vs=[.int i,.int j]/\(-(2 ^ 62)<=i/\i<2 ^ 62/\-(2 ^ 62)<=j/\j<2 ^ 62)/\R (Itr i (j - i).toNat) H1
theorem DB{a:Expr}(hg:Gl X "range")(hm:X.mg "range" = none)(ha:PA X [a] ta)(hs:ar [a] X.env=[(false,eval a X.env)]:=by rfl):PI X tg (.Call (.Name "range" p) [a] [] pos) (Jr ta):=by
 intro pins s σ H R I h;refine Call_ (uU I hg hm boot_range (callWith_type1 (thn (ha pos pins s σ H _ I h) λus s1 zz=>?_) hs rfl));obtain⟨vs,H1,I1,r1,q1⟩:=zz;obtain⟨j,e,q1,q2,q⟩:=q1;subst e;cases r1 with
 |cons r rr=>cases rr;obtain⟨t,rfl⟩:=r;exact call_range_1 (Ap I1 (by omega) (by omega) q1 q2 (by simpa using q))
theorem DC{a b:Expr}(hg:Gl X "range")(hm:X.mg "range" = none)(ha:PA X [a,b] ta)(hs:ar [a,b] X.env=[(false,eval a X.env),(false,eval b X.env)]:=by rfl)(hs2:ar [b] X.env=[(false,eval b X.env)]:=by rfl):
  PI X tg (.Call (.Name "range" p) [a,b] [] pos) (Js ta):=by
 intro pins s σ H R I h;refine Call_ (uU I hg hm boot_range (callWith_type1 (thn (ha pos pins s σ H _ I h) λus s1 zz=>?_) (by rw[hs,hs2]) (by rw[hs2];rfl)));obtain⟨vs,H1,I1,r1,q1⟩:=zz;obtain⟨i,j,e,⟨q1,q2,q3,q4⟩,q⟩:=q1;subst e;cases r1 with
 |cons r rr=>
  cases rr with
  |cons r' rr=>cases rr;obtain⟨t,rfl⟩:=r;obtain⟨t',rfl⟩:=r';exact call_range_2 (Ap I1 q1 q2 q3 q4 q)
def Kn(wi:TI)(g:TG)(tb:TS):TS:=λD σ H=>wi σ H λJ H1=>∃W:Nat->Nat->St->Hp->Prop,(∃m,W 0 m σ H1)/\∀i m σ H,W i m σ H->
 (J.stop i H/\D.nx σ H)\/(J.go i H/\∃N:St->Hp->Prop,(∀σ' H',N σ' H'->∃m',m'<m/\W (i+1) m' σ' H')/\∀x H',J.yld i H x H'->g x σ H' λσ2 H2=>tb { D with nx:=N,ct:=N,bk:=D.nx } σ2 H2)
def xD(fp:List Addr)(h:Heap):List (Addr×Obj):=fp.filterMap λb=>(h.get? b).map λo=>(b,o)
theorem rN{fp:List Addr}{h:Heap}{o:Obj}(hb:b∈fp)(e:h.get? b=some o):(b,o)∈xD fp h:=cN.mpr ⟨b,hb,by rw[e];rfl⟩
theorem DD{fp:List Addr}{h:Heap}{p:Addr×Obj}(hp:p∈xD fp h):p.1∈fp/\h.get? p.1=some p.2:=by
 obtain⟨b,hb,e⟩:=cN.mp hp;cases q:h.get? b with
 |none=>rw[q]at e;cases e
 |some o=>rw[q]at e;have e':(b,o)=p:=bT e;subst e';exact⟨hb,q⟩
theorem Inv.pinned{H:Hp}{s:ae}{fp:List Addr}(I:Inv X pins σ H s)(hf:∀b∈fp,zH X pins H b)(ho:∀b∈fp,∃o,s.heap.get? b=some o/\∀v,o.data≠.cell v):Inv X (pins++xD fp s.heap) σ H s:=
 I.pins_of λp hp=>(aZ.mp hp).elim (λz=>I.pin p (aK _ z)) λz=>by obtain⟨hb,e⟩:=DD z;obtain⟨f0,f1,f2,_⟩:=hf p.1 hb;obtain⟨o,e',d⟩:=ho p.1 hb;rw[e]at e';cases e';exact⟨e,f0,f1,f2,d⟩
theorem Inv.unpinned{pl:List (Addr×Obj)}{H:Hp}{s:ae}(I:Inv X (pins++pl) σ H s):Inv X pins σ H s:=I.pins_of λp hp=>I.pin p (aK _ (aT _ hp))
theorem Ex{iter:Expr}{wi:TI}{g:TG}{tb:TS}(hp:PassesOwn (model X.prog X.w) X.A X.env X.xe)(hc:X.calm=true)(hi:PI X tg iter wi)(hg:PG X tg g)(hb:PSs X body tb)
  (hs:∀x,fF iter X.env x=pure x:=by intro _;rfl):PS X (.For tg iter body [] pos) (Kn wi g tb):=by
 intro pins s σ H D I h;refine wpAny_For (thn (hi pins s σ H _ I h) λv s1 h1=>thn h1 λitv s2 h2=>?_) hs;obtain⟨it,fp,tn,J,H2,e,I2,T,st2,f2,W,⟨m0,w0⟩,turn⟩:=h2;subst e;have stat:∀{H':Hp},(∀b∈fp,H' b=none)->∀b∈fp,zH X pins H' b:=λhn b hb=>⟨hn b hb,(f2 b hb).2⟩;refine codeAny_forLoop_any (λn s'=>∃i σ' H',Inv X pins σ' H' s'/\tn i s'.heap/\(∀b∈fp,H' b=none)/\W i n σ' H') ?_ m0 ⟨0,σ,H2,I2,st2,λb hb=>(f2 b hb).1,w0⟩;rintro n s3 ⟨i,σ3,H3,I3,st3,fr3,w3⟩;rcases turn i n σ3 H3 w3 with ⟨stop,qn⟩|⟨go,N,hN,step⟩
 ·refine fK hp (thn (T.done X rfl rfl rfl hc i pins s3 σ3 H3 X.xe I3 (stat fr3) st3 stop) λr s4 zz=>?_);obtain⟨hr,I4⟩:=zz;subst hr;exact fJ ⟨σ3,H3,I4,qn⟩
 ·refine fK hp (thn (T.item X rfl rfl rfl hc i pins s3 σ3 H3 X.xe I3 (stat fr3) st3 go) λr s4 zz=>?_);obtain⟨u,hr,h4⟩:=zz;subst hr;refine fK hp (thn h4 λ_ s5 zz=>?_);obtain⟨x,H5,I5,r5,y5,st5,fr5⟩:=zz;have I5':=I5.pinned (stat fr5) (T.obj _ _ st5);refine fK hp (thn (hg _ s5 σ3 H5 x u _ I5' r5 (step x H5 y5)) λ_ s6 zz=>?_);obtain⟨σ6,H6,I6,q6⟩:=zz;refine fK hp (thn (hb _ s6 σ6 H6 _ I6 q6) λf s7 q7=>?_);have again:∀{σ7:St} {H7:Hp},Inv X (pins++xD fp s5.heap) σ7 H7 s7->N σ7 H7->∃m,m<n/\∃i σ' H',Inv X pins σ' H' s7/\tn i s7.heap/\(∀b∈fp,H' b=none)/\W i m σ' H':=λ{σ7 H7} I7 n7=>by obtain⟨m',hm,w7⟩:=hN σ7 H7 n7;refine⟨m',hm,i+1,σ7,H7,I7.unpinned,T.keep _ _ _ st5 λb hb o e=>(I7.pin (b,o) (aK _ (aK _ (rN hb e)))).1,λb hb=>?_,w7⟩;obtain⟨o,e,d⟩:=T.obj _ _ st5 b hb;exact(I7.pin (b,o) (aK _ (aK _ (rN hb e)))).2.1
  cases f with
  |next=>obtain⟨σ7,H7,I7,n7⟩:=q7;exact again I7 n7
  |cont=>obtain⟨σ7,H7,I7,n7⟩:=q7;exact again I7 n7
  |brk=>obtain⟨σ7,H7,I7,q7⟩:=q7;exact⟨σ7,H7,I7.unpinned,q7⟩
  |ret v=>obtain⟨x7,σ7,H7,I7,r7,q7⟩:=q7;exact⟨x7,σ7,H7,I7.unpinned,r7,q7⟩
end
abbrev R2:=V->V->Hp->VK->Prop
def OpR(X:Cx)(f:aa->aa->Sem aa)(r:R2):Prop:=
 ∀(pins:List (Addr×Obj)) (s:ae) (σ:St) (H:Hp) (x y:V) (v u:aa) (Q:VK),Inv X pins σ H s->RelV x v->RelV y u->r x y H Q->
  af (model X.prog X.w) X.A (f v u) (EP X pins σ Q) X.xe s
def pR(X:Cx)(f:aa)(r:List V->Hp->VK->Prop):Prop:=
 ∀(pins:List (Addr×Obj)) (s:ae) (σ:St) (H:Hp) (xs:List V) (us:List aa) (Q:VK),Inv X pins σ H s->Vals xs us->r xs H Q->
  af (model X.prog X.w) X.A (call f us) (EP X pins σ Q) X.xe s
def tOp(r:R2)(ta tb:TE):TE:=λσ H Q=>ta σ H λx H1=>tb σ H1 λy H2=>r x y H2 Q
def rI(C:Int->Int->Prop)(g:Int->Int->V):R2:=λx y H Q=>∃i j,x=.int i/\y=.int j/\C i j/\Q (g i j) H
def rI0(g:Int->Int->V):R2:=λx y H Q=>∃i j,x=.int i/\y=.int j/\Q (g i j) H
variable{f:aa->aa->Sem aa}
section
variable{X:Cx}{a b c:Expr}{ta tb tc:TE}{pos:Pos}
theorem Ko(ha:PE X a ta)(hb:PE X b tb){s:ae}{H:Hp}(I:Inv X pins σ H s)
  (h:ta σ H λx H1=>tb σ H1 λy H2=>R x y H2)
  (hf:∀v u s2 x y H2,Inv X pins σ H2 s2->RelV x v->RelV y u->R x y H2->af (model X.prog X.w) X.A (f v u) Q X.xe s2):
  af (model X.prog X.w) X.A (eval a X.env) (λv s₁=>af (model X.prog X.w) X.A (eval b X.env) (λu s₂=>af (model X.prog X.w) X.A (f v u) Q X.xe s₂) X.xe s₁) X.xe s:=by
 refine thn (ha pins s σ H _ I h) λv s1 zz=>?_;obtain⟨x,H1,I1,r1,q1⟩:=zz;refine thn (hb pins s1 σ H1 _ I1 q1) λu s2 zz=>?_;obtain⟨y,H2,I2,r2,q2⟩:=zz;exact hf v u s2 x y H2 I2 r1 r2 q2
theorem Ey{op:gH}{r:R2}(ho:OpR X (cF op) r)(ha:PE X a ta)(hb:PE X b tb):PE X (.BinOp a op b pos) (tOp r ta tb):=by intro pins s σ H Q I h;exact wpAny_BinOp (Ko ha hb I h λv u s2 x y H2 I2 rx ry q=>ho pins s2 σ H2 x y v u Q I2 rx ry q)
theorem opI{C:Int->Int->Prop}{g:Int->Int->Int}
  (rule:∀(i j:Int) (t u:Tok) (s:ae) (Q:aa->ae->Prop) (E:aa->ae->Prop),C i j->Q (.int (g i j) s.toks) { s with toks:=s.toks+1 }->af (model X.prog X.w) X.A (f (.int i t) (.int j u)) Q E s):
  OpR X f (rI C λi j=>.int (g i j)):=by
 intro pins s σ H x y v u Q I rx ry h;obtain⟨i,j,rfl,rfl,hc,q⟩:=h;obtain⟨t,rfl⟩:=rx;obtain⟨t',rfl⟩:=ry;exact rule i j t t' s _ _ hc ⟨.int (g i j),H,I.tok _,⟨_,rfl⟩,q⟩
theorem O5{g:Int->Int->Int}
  (rule:∀(i j:Int) (t u:Tok) (s:ae) (Q:aa->ae->Prop) (E:aa->ae->Prop),Q (.int (g i j) s.toks) { s with toks:=s.toks+1 }->af (model X.prog X.w) X.A (f (.int i t) (.int j u)) Q E s):
  OpR X f (rI0 λi j=>.int (g i j)):=by
 intro pins s σ H x y v u Q I rx ry h;obtain⟨i,j,rfl,rfl,q⟩:=h;obtain⟨t,rfl⟩:=rx;obtain⟨t',rfl⟩:=ry;exact rule i j t t' s _ _ ⟨.int (g i j),H,I.tok _,⟨_,rfl⟩,q⟩
theorem GV{g:Int->Int->Bool}
  (rule:∀(i j:Int) (t u:Tok) (s:ae) (Q:aa->ae->Prop) (E:aa->ae->Prop),Q (.bool (g i j)) s->af (model X.prog X.w) X.A (f (.int i t) (.int j u)) Q E s):
  OpR X f (rI0 λi j=>.bl (g i j)):=by
 intro pins s σ H x y v u Q I rx ry h;obtain⟨i,j,rfl,rfl,q⟩:=h;obtain⟨t,rfl⟩:=rx;obtain⟨t',rfl⟩:=ry;exact rule i j t t' s _ _ ⟨.bl (g i j),H,I,rfl,q⟩
def Kp(i j:Int):Prop:=0<j/\j<1073741824
def NC(i j:Int):Prop:=0<=j/\j<=1000000/\i.natAbs<2 ^ 64
def GW(i j:Int):Prop:=(-(2 ^ 64)<i/\i<2 ^ 64)\/(-(2 ^ 64)<j/\j<2 ^ 64)
theorem GW.ok{i j:Int}(h:GW i j):IntMulOk i j:=by
 rcases h with ⟨h1,h2⟩|⟨h1,h2⟩
 ·exact .of_left (kD h1 h2)
 ·exact .of_right (kD h1 h2)
theorem Kq:OpR X (cF .Add) (rI0 λi j=>.int (i+j)):=O5 λ_ _ _ _ _ _ _ q=>add_int q
theorem Kr:OpR X (cF .Mult) (rI GW λi j=>.int (i * j)):=opI λ_ _ _ _ _ _ _ hc q=>mul_int q hc.ok
theorem GY:OpR X (cF .FloorDiv) (rI Kp λi j=>.int (i / j)):=opI λi j _ _ _ _ _ hc q=>by have h1:(0:Int)<j:=hc.1;have h2:j<1073741824:=hc.2;exact floordiv_int (by omega) (by rw[Int.fdiv_eq_ediv_of_nonneg i (by omega)];exact q) (.inl (PyProof.noPylong_small (by omega)))
theorem Ks:OpR X (cF .Mod) (rI (λ_ j=>0<j) λi j=>.int (i % j)):=opI λi j _ _ _ _ _ hc q=>by have h1:(0:Int)<j:=hc;exact mod_int' (by omega) (by rw[Int.fmod_eq_emod_of_nonneg i (by omega)];exact q)
theorem Kt:OpR X (cF .Pow) (rI NC λi j=>.int (i ^ j.toNat)):=opI λ_ _ _ _ _ _ _ hc q=>pow_int_small hc.1 hc.2.1 hc.2.2 q
end
def EA:V->V->Bool
 |.non,.non=>true|.non,.int _=>true|.int _,.non=>true|.non,.bl _=>true|.bl _,.non=>true|.non,.str _=>true|.str _,.non=>true
 |.int _,.int _=>true|.bl _,.bl _=>true|.str _,.str _=>true|.byt _,.byt _=>true
 |.int _,.str _=>true|.str _,.int _=>true|.bl _,.str _=>true|.str _,.bl _=>true
 |_,_=>false
def rEq:R2:=λx y H Q=>EA x y=true/\Q (.bl (decide (x=y))) H
def rNe:R2:=λx y H Q=>EA x y=true/\Q (.bl (!decide (x=y))) H
theorem Cb{i j:Int}:decide (V.int i=V.int j)=(i==j):=by rw[dB];simp
theorem EB{i j:Bool}:decide (V.bl i=V.bl j)=(i==j):=by rw[dB];simp
theorem Cd{i j:Str}:decide (V.str i=V.str j)=(i==j):=by rw[dB];simp
theorem Ce{i j:Array UInt8}:decide (V.byt i=V.byt j)=(i.toList==j.toList):=by rw[dB];cases i;cases j;simp
variable{op':eB}{r':R2}
section
variable{X:Cx}{a b c:Expr}{ta tb tc:TE}{pos:Pos}
theorem ou{H:Hp}{s:ae}{Q:VK}{k k':Bool}(I:Inv X pins σ H s)(q:Q (.bl k) H)(e:k=k'):EP X pins σ Q (.bool k') s:=by subst e;exact⟨.bl k,H,I,rfl,q⟩
theorem ND:OpR X (aU .Eq) rEq:=by
 intro pins s σ H x y v u Q I rx ry h;obtain⟨hs,q⟩:=h;cases x with
 |non=>
  cases rx;cases y with
  |non=>cases ry;exact lG (ou I q (by simp))
  |bl j=>cases ry;exact lI (ou I q (by simp))
  |int j=>obtain⟨t',rfl⟩:=ry;exact lY (ou I q (by simp))
  |str j=>obtain⟨t',rfl⟩:=ry;exact lZ (ou I q (by simp))
  |_=>exact ak (show false=true from hs) bf
 |bl i=>
  cases rx;cases y with
  |non=>cases ry;exact lK (ou I q (by simp))
  |bl j=>cases ry;exact eq_bool (ou I q EB)
  |str j=>obtain⟨t',rfl⟩:=ry;exact lL (ou I q (by simp))
  |_=>exact ak (show false=true from hs) bf
 |int i=>
  obtain⟨t,rfl⟩:=rx;cases y with
  |non=>cases ry;exact l3 (ou I q (by simp))
  |int j=>obtain⟨t',rfl⟩:=ry;exact eq_int (ou I q Cb)
  |str j=>obtain⟨t',rfl⟩:=ry;exact l4 (ou I q (by simp))
  |_=>exact ak (show false=true from hs) bf
 |str i=>
  obtain⟨t,rfl⟩:=rx;cases y with
  |non=>cases ry;exact l5 (ou I q (by simp))
  |bl j=>cases ry;exact lM (ou I q (by simp))
  |int j=>obtain⟨t',rfl⟩:=ry;exact l7 (ou I q (by simp))
  |str j=>obtain⟨t',rfl⟩:=ry;exact eq_str (ou I q Cd)
  |_=>exact ak (show false=true from hs) bf
 |byt i=>
  obtain⟨t,rfl⟩:=rx;cases y with
  |byt j=>obtain⟨t',rfl⟩:=ry;exact W.eq_bytes (ou I q Ce)
  |_=>exact ak (show false=true from hs) bf
 |_=>cases y<;>exact ak (show false=true from hs) bf
theorem NF:OpR X (aU .NotEq) rNe:=by
 intro pins s σ H x y v u Q I rx ry h;obtain⟨hs,q⟩:=h;cases x with
 |non=>
  cases rx;cases y with
  |non=>cases ry;exact lN (ou I q (by simp))
  |bl j=>cases ry;exact lO (ou I q (by simp))
  |int j=>obtain⟨t',rfl⟩:=ry;exact l8 (ou I q (by simp))
  |str j=>obtain⟨t',rfl⟩:=ry;exact l9 (ou I q (by simp))
  |_=>exact ak (show false=true from hs) bf
 |bl i=>
  cases rx;cases y with
  |non=>cases ry;exact lQ (ou I q (by simp))
  |bl j=>cases ry;exact ne_bool (ou I q (aL not EB))
  |str j=>obtain⟨t',rfl⟩:=ry;exact lS (ou I q (by simp))
  |_=>exact ak (show false=true from hs) bf
 |int i=>
  obtain⟨t,rfl⟩:=rx;cases y with
  |non=>cases ry;exact md (ou I q (by simp))
  |int j=>obtain⟨t',rfl⟩:=ry;exact ne_int (ou I q (aL not Cb))
  |str j=>obtain⟨t',rfl⟩:=ry;exact mf (ou I q (by simp))
  |_=>exact ak (show false=true from hs) bf
 |str i=>
  obtain⟨t,rfl⟩:=rx;cases y with
  |non=>cases ry;exact mh (ou I q (by simp))
  |bl j=>cases ry;exact lX (ou I q (by simp))
  |int j=>obtain⟨t',rfl⟩:=ry;exact mi (ou I q (by simp))
  |str j=>obtain⟨t',rfl⟩:=ry;exact ne_str (ou I q (aL not Cd))
  |_=>exact ak (show false=true from hs) bf
 |byt i=>
  obtain⟨t,rfl⟩:=rx;cases y with
  |byt j=>obtain⟨t',rfl⟩:=ry;exact W.ne_bytes (ou I q (aL not Ce))
  |_=>exact ak (show false=true from hs) bf
 |_=>cases y<;>exact ak (show false=true from hs) bf
theorem NG:OpR X (aU .Lt) (rI0 λi j=>.bl (decide (i<j))):=GV λ_ _ _ _ _ _ _ q=>lt_int q
theorem NH:OpR X (aU .LtE) (rI0 λi j=>.bl (decide (i<=j))):=GV λ_ _ _ _ _ _ _ q=>le_int q
theorem NI:OpR X (aU .Gt) (rI0 λi j=>.bl (decide (j<i))):=GV λ_ _ _ _ _ _ _ q=>gt_int q
theorem NJ:OpR X (aU .GtE) (rI0 λi j=>.bl (decide (j<=i))):=GV λ_ _ _ _ _ _ _ q=>ge_int q
theorem Ku:OpR X (aU .Is) (λx y H Q=>y=.non/\Q (.bl (decide (x=.non))) H):=by
 intro pins s σ H x y v u Q I rx ry h;obtain⟨rfl,q⟩:=h;cases ry;refine is_none_gen (ou I q ?_);cases x<;>first
  |(cases rx;rfl)
  |(obtain⟨t,rfl⟩:=rx;rfl)
theorem GZ:OpR X (aU .IsNot) (λx y H Q=>y=.non/\Q (.bl (!decide (x=.non))) H):=by
 intro pins s σ H x y v u Q I rx ry h;obtain⟨rfl,q⟩:=h;cases ry;refine isnot_none_gen (ou I q ?_);cases x<;>first
  |(cases rx;rfl)
  |(obtain⟨t,rfl⟩:=rx;rfl)
theorem G0{r:R2}(ho:OpR X (aU op) r)(ha:PE X a ta)(hb:PE X b tb)(hm:d5 op b=false):PE X (.Compare a [op] [b] pos) (tOp r ta tb):=by intro pins s σ H Q I h;exact wpAny_Compare1 (Ko ha hb I h λv u s2 x y H2 I2 rx ry q=>ho pins s2 σ H2 x y v u Q I2 rx ry q) hm
def EC(t:TE):TT:=λσ H Q=>t σ H λx H'=>∃k,x=.bl k/\Q k H'
theorem G1{r:R2}(ho:OpR X (aU op) r)(ha:PE X a ta)(hb:PE X b tb)(hm:d5 op b=false):PT X (.Compare a [op] [b] pos) (EC (tOp r ta tb)):=by
 intro pins s σ H Q I h;refine jv (thn (ha pins s σ H _ I h) λv s1 ⟨x,H1,I1,r1,q1⟩=>thn (hb pins s1 σ H1 _ I1 q1) λu s2 ⟨y,H2,I2,r2,q2⟩=>
  thn (ho pins s2 σ H2 x y v u _ I2 r1 r2 q2) λc s3 ⟨z,H3,I3,r3,k,e,q3⟩=>?_) hm
 subst e;cases r3;exact cn ⟨H3,I3,q3⟩
def Bp(r r':R2)(ta tb tc:TE):TE:=λσ H Q=>ta σ H λx H1=>tb σ H1 λy H2=>r x y H2 λz H3=>∃k,z=.bl k/\
 (if k=true then tc σ H3 λw' H4=>r' y w' H4 Q else Q (.bl false) H3)
theorem ED{r:R2}(ho:OpR X (aU op) r)(ho':OpR X (aU op') r')(ha:PE X a ta)(hb:PE X b tb)(hc:PE X c tc)
  (hm:lastMarks [op,op'] [b,c]=false:=by with_unfolding_all rfl):PE X (.Compare a [op,op'] [b,c] pos) (Bp r r' ta tb tc):=by
 intro pins s σ H Q I h;refine Compare_chain (thn (ha pins s σ H _ I h) λv s1 ⟨x,H1,I1,r1,q1⟩=>chain_link (thn (hb pins s1 σ H1 _ I1 q1) λu s2 ⟨y,H2,I2,r2,q2⟩=>
  thn (ho pins s2 σ H2 x y v u _ I2 r1 r2 q2) λd s3 ⟨z,H3,I3,r3,k,e,q3⟩=>?_)) hm
 subst e;cases r3;refine cn ?_;cases k with
 |false=>exact ite_ff ⟨.bl false,H3,I3,rfl,q3⟩
 |true=>exact ite_tt (chain_last (thn (hc pins s3 σ H3 _ I3 q3) λw' s4 ⟨z',H4,I4,r4,q4⟩=>ho' pins s4 σ H4 y z' u w' Q I4 r2 r4 q4))
theorem EE{r:R2}(ho:OpR X (aU op) r)(ho':OpR X (aU op') r')(ha:PE X a ta)(hb:PE X b tb)(hc:PE X c tc)
  (hm:lastMarks [op,op'] [b,c]=false:=by with_unfolding_all rfl):PT X (.Compare a [op,op'] [b,c] pos) (EC (Bp r r' ta tb tc)):=by
 intro pins s σ H Q I h;refine isTrue_chain (thn (ha pins s σ H _ I h) λv s1 ⟨x,H1,I1,r1,q1⟩=>test_link (thn (hb pins s1 σ H1 _ I1 q1) λu s2 ⟨y,H2,I2,r2,q2⟩=>
  thn (ho pins s2 σ H2 x y v u _ I2 r1 r2 q2) λd s3 ⟨z,H3,I3,r3,k,e,q3⟩=>?_)) hm
 subst e;cases r3;refine cn ?_;cases k with
 |false=>obtain⟨k',e',q'⟩:=q3;cases e';exact ite_ff ⟨H3,I3,q'⟩
 |true=>refine ite_tt (test_last (thn (hc pins s3 σ H3 _ I3 q3) λw' s4 ⟨z',H4,I4,r4,q4⟩=>thn (ho' pins s4 σ H4 y z' u w' _ I4 r2 r4 q4) λd' s5 ⟨z2,H5,I5,r5,k2,e2,q5⟩=>?_));subst e2;cases r5;exact cn ⟨H5,I5,q5⟩
theorem vT:(az:Nat)<2 ^ 63:=by rw[cz];decide
theorem vals1{x:V}(r:Vals [x] us):∃u,us=[u]/\RelV x u:=by
 cases r with
 |cons r1 r2=>cases r2;exact⟨_,rfl,r1⟩
theorem vals2{x:V}(r:Vals [x,y] us):∃u w',us=[u,w']/\RelV x u/\RelV y w':=by
 cases r with
 |cons r1 r2=>
  cases r2 with
  |cons r3 r4=>cases r4;exact⟨_,_,rfl,r1,r3⟩
theorem DE(hc:X.calm=true):pR X (.builtin "max") (λxs H Q=>∃i j,xs=[.int i,.int j]/\Q (.int (if j > i then j else i)) H):=by
 intro pins s σ H xs us Q I r h;obtain⟨i,j,rfl,q⟩:=h;obtain⟨u,w',rfl,⟨t,rfl⟩,⟨t',rfl⟩⟩:=vals2 r;refine max_two_ints (I.ok.hd hc) λh' tk k=>⟨_,H,I.kept k,?_,q⟩;by_cases hj:j > i
 ·rw[ag hj,ag hj];exact⟨_,rfl⟩
 ·rw[ah hj,ah hj];exact⟨_,rfl⟩
theorem DF(hc:X.calm=true):pR X (.builtin "min") (λxs H Q=>∃i j,xs=[.int i,.int j]/\Q (.int (if j<i then j else i)) H):=by
 intro pins s σ H xs us Q I r h;obtain⟨i,j,rfl,q⟩:=h;obtain⟨u,w',rfl,⟨t,rfl⟩,⟨t',rfl⟩⟩:=vals2 r;refine min_two_ints (I.ok.hd hc) λh' tk k=>⟨_,H,I.kept k,?_,q⟩;by_cases hj:j<i
 ·rw[ag hj,ag hj];exact⟨_,rfl⟩
 ·rw[ah hj,ah hj];exact⟨_,rfl⟩
theorem DG:pR X (.type "int") (λxs H Q=>(∃i,xs=[.int i]/\Q (.int i) H)\/∃k,xs=[.bl k]/\Q (.int (if k then 1 else 0)) H):=by
 intro pins s σ H xs us Q I r h;rcases h with ⟨i,rfl,q⟩|⟨k,rfl,q⟩
 ·obtain⟨u,rfl,t,rfl⟩:=vals1 r;exact call_int_int ⟨.int i,H,I,⟨_,rfl⟩,q⟩
 ·obtain⟨u,rfl,r1⟩:=vals1 r;cases r1;exact call_int_bool ⟨.int (if k then 1 else 0),H,I.tok _,⟨_,rfl⟩,q⟩
end
structure Bq(h:Heap)(x dx C:Addr)(mA:Str->Option aa):Prop where
 obj:h.get? x=some (dM C dx)
 ns:h.Ns1 dx mA
 ne:dx≠x
variable{dx:Addr}{mA:Str->Option aa}
theorem DH{h:Heap}(n:h.Ns1 dx mA):∃od,h.get? dx=some od/\∀name,gK name od=some (mA name):=by
 obtain⟨o,es,ep,ho,hd,hk,_,hm⟩:=n;refine⟨o,ho,λname=>?_⟩;have e:=hm name;unfold nsFind findBy at e;rw[<-Array.find?_toList]at e;unfold gK;rw[hd];dsimp only;split
 ·rename_i y q;rw[q]at e;exact aL some e
 ·rename_i q;rw[q]at e;have a:es.toList.any (·.refKey)=false:=by rw[List.any_eq_false];intro y hy;obtain⟨z,t,hkey⟩:=hk y (Array.mem_toList_iff.mp hy);simp[DictEntry.refKey,hkey]
  have a':¬es.toList.any (·.refKey)=true:=by rw[a];exact bf
  rw[ah a'];exact aL some e
variable{C:Addr}
theorem Bq.look{h:Heap}{x:Addr}(I:Bq h x dx C mA):∃od,W.InstAt h x (dM C dx) C (some od)/\∀name,gK name od=some (mA name):=
 let ⟨od,ho,hl⟩:=DH I.ns
 ⟨od,⟨I.obj,rfl,rfl,ho⟩,hl⟩
variable{kw:List (Str×aa)}
section
variable{prog:aq}{w:ao}{A:ay}{E:aa->ae->Prop}{s:ae}{K:aj}{x dx C f:Addr}{mA:Str->Option aa}{name:Str}{v:aa}
theorem get_map{expr:Bool}(X:K.In s.heap)(I:Bq s.heap x dx C mA)(hg:gA K C name=true)(hh:iQ K C=true)
  (ha:ck K (.ref C) name=some none) (hv:mA name=some v) (hv':W.handedIn v=true) (h:Q v { s with toks:=s.toks+1 }):
  af (model prog w) A (getAttr (.ref x) name expr) Q E s:=by
 obtain⟨od,J,hl⟩:=I.look;exact W.get_value X J (iG hg).1 (W.findObj_own hh ha rfl (by rw[hl,hv])) hv' h
theorem EF{pl:Sem Bool}{Q:aa×List aa->ae->Prop}(X:K.In s.heap)(I:Bq s.heap x dx C mA)(hg:gA K C name=true)
  (hf:ck K (.ref C) name=some (some (.ref f))) (ht:gQ K (.ref f)=true) (hv:mA name=none) (h:Q (.ref f,[.ref x]) s):
  af (model prog w) A (getMethod (.ref x) name pl) Q E s:=by
 obtain⟨od,J,hl⟩:=I.look;exact W.method_fn X J (iG hg).1 (iG hg).2 hf (beq_iff_eq.mp ht) (by show (gK name od).map (·.isSome)=some false;rw[hl,hv];rfl) h
theorem G2{ns:List Str}{Q:Unit->ae->Prop}(X:K.In s.heap)(I:Bq s.heap x dx C mA)
  (hs:ck K (.ref C) "__setattr__" = some (some (.builtin "object.__setattr__"))) (hp:lg K C=true) (ht:i8 K C name=some none) (hh:iQ K C=true)
  (hw:iI mA ns) (hsz:ns.length<=az)
  (h:∀h',Bq h' x dx C (λy=>if y=name then some v else mA y)->eO dx s.heap h'->Q () { s with heap:=h',toks:=s.toks+2 }):
  af (model prog w) A (setAttr (.ref x) name v) Q E s:=by
 obtain⟨od,J,hl⟩:=I.look;refine W.set_plain X J hs (W.osa_open (s:={ s with toks:=s.toks+1 }) (r:=none) X J hp ht λb=>?_);obtain⟨cd,hc,hd'⟩:=W.any_some hh;have hx:s.heap.get? x=some ⟨.ref C,some dx,.plain,#[]⟩:=I.obj;refine au (aD (au (au (wpAny_loadPart hx (au (W.Looks.here (s:={ s with toks:=s.toks+1 }) (W.looks_clsIn X hc) ?_))))));rw[hd'];refine aD (a:=some dx) (au (aD (au ?_)));refine wpAny_nsSet1 (s:={ s with toks:=s.toks+1 }) I.ns λh' hn2 hs2=>?_;obtain⟨oD,esD,epD,hoD,hdD,hcD⟩:=hn2.count (nz name v hw);refine au (wpAny_lookBehind hoD (by rw[hdD];exact pastItsLine_dict (bH hcD (by rw[aE];omega))) ?_);exact aD (h _ ⟨(hs2.2 _ (dN I.ne)).trans I.obj,hn2,I.ne⟩ hs2)
theorem Aq{R:cY->ae->Prop}{vs:List aa}(X:K.In s.heap)(hm:W.makesIn K C=true)
  (hi:ck K (.ref C) "__init__" = some (some (.ref f))) (hf:W.typeIn K (.ref f)=some (.type "function"))
  (h:bV (model prog w) (A.under (.builtin "type.__call__" ⟨.ref C::vs,kw⟩)) (.call (.ref f) ⟨.ref (s.heap.objs.size+1)::vs,kw⟩) (W.InitBack (s.heap.objs.size+1) R)
   { s with heap:=(s.heap.push dg).push (dM C s.heap.objs.size) }):
  bV (model prog w) A (.call (.ref C) ⟨vs,kw⟩) R s:=by
 obtain⟨hh,g,d,t,os⟩:=s;exact W.make_core (W.makes_of X hm) (W.looks_findIn X hi) (λself=>W.bind_fn X self hf) (.inl rfl) h
end
def sG(f:Str)(v:V):List (Str×V)->List (Str×V)
 |[]=>[(f,v)]
 |(g,x)::r=>if g=f then (g,v)::r else (g,x)::sG f v r
theorem wB(f g:Str)(v:V):∀fs:List (Str×V),(sG f v fs).lookup g=if g=f then some v else fs.lookup g
 |[]=>by
  show cD g [(f,v)]=_;by_cases h:g=f
  ·have hb:(g==f)=true:=beq_iff_eq.mpr h;simp only[cD,hb,ag h]
  ·have hb:(g==f)=false:=beq_eq_false_iff_ne.mpr h;simp only[cD,hb,ah h]
 |(k,x)::r=>by
  have ih:=wB f g v r;rw[show sG f v ((k,x)::r)=(if k=f then (k,v)::r else (k,x)::sG f v r) from rfl];by_cases hk:k=f
  ·rw[ag hk];by_cases h:g=k
   ·have hb:(g==k)=true:=beq_iff_eq.mpr h;simp only[cD,hb,ag (h.trans hk)]
   ·have hb:(g==k)=false:=beq_eq_false_iff_ne.mpr h;simp only[cD,hb,ah (λe:g=f=>h (e.trans hk.symm))]
  ·rw[ah hk];by_cases h:g=k
   ·have hb:(g==k)=true:=beq_iff_eq.mpr h;simp only[cD,hb,ah (λe:g=f=>hk (h.symm.trans e))]
   ·have hb:(g==k)=false:=beq_eq_false_iff_ne.mpr h;simp only[cD,hb];exact ih
theorem vU(f:Str)(v:V):∀fs:List (Str×V),f∈(sG f v fs).map (·.1)/\∀g,g∈fs.map (·.1)->g∈(sG f v fs).map (·.1)
 |[]=>⟨by simp[sG],λg h=>by simp at h⟩
 |(k,x)::r=>by
  obtain⟨i1,i2⟩:=vU f v r;rw[show sG f v ((k,x)::r)=(if k=f then (k,v)::r else (k,x)::sG f v r) from rfl];by_cases hk:k=f
  ·rw[ag hk];subst hk;exact⟨by simp,λg h=>by simpa using h⟩
  ·rw[ah hk];refine⟨?_,λg h=>?_⟩
   ·rw[aN];exact aM _ i1
   ·rw[aN]at h ⊢;rcases aW.mp h with e|e
    ·exact aW.mpr (.inl e)
    ·exact aM _ (i2 g e)
theorem wC(f:Str)(v:V):∀fs:List (Str×V),(sG f v fs).length<=fs.length+1
 |[]=>by simp[sG]
 |(k,x)::r=>by
  have ih:=wC f v r;rw[show sG f v ((k,x)::r)=(if k=f then (k,v)::r else (k,x)::sG f v r) from rfl];by_cases hk:k=f
  ·rw[ag hk,aE,aE];omega
  ·rw[ah hk,aE,aE];omega
theorem uC.some_of{v:V}{o:Option aa}(r:uC (some v) o):∃u,o=some u/\RelV v u:=by
 cases o with
 |none=>exact(show False from r).elim
 |some u=>exact⟨u,rfl,r⟩
theorem uC.none_of{o:Option aa}(r:uC none o):o=none:=by
 cases o with
 |none=>rfl
 |some u=>exact(show False from r).elim
theorem DI{v:V}(r:RelV v u):W.handedIn u=true:=by
 cases v with
 |non=>cases (show u=Value.none from r);rfl
 |bl b=>cases (show u=Value.bool b from r);rfl
 |int i=>obtain⟨t,e⟩:=(show ∃t,u=Value.int i t from r);cases e;rfl
 |str x=>obtain⟨t,e⟩:=(show ∃t,u=Value.str x t from r);cases e;rfl
 |byt b=>obtain⟨t,e⟩:=(show ∃t,u=Value.bytes b t from r);cases e;rfl
 |flt b=>obtain⟨t,e⟩:=(show ∃t,u=Value.float b t from r);cases e;rfl
 |ref a=>cases (show u=Value.ref a from r);rfl
 |ty n=>cases (show u=Value.type n from r);rfl
section
variable{P:aq}{w:ao}{H H':Hp}{h h':Heap}{a C dx:Addr}{fs fs':List (Str×V)}
theorem sR(hok:HOk P w H h)(e:H a=some (.ins C dx fs)):∃mA,Bq h a dx C mA/\(∀f,uC (fs.lookup f) (mA f))/\iI mA (fs.map (·.1))/\fs.length<=1000/\H dx=some (.own a):=by obtain⟨d,z,ne,ob,mA,n,r,q⟩:=(show o8 P w H h a (.ins C dx fs) from hok a _ e);exact⟨mA,⟨ob,n,ne⟩,r,q,z,d⟩
end
structure Cls(K:aj)(C:Addr):Prop where
 pg:gA K C Str.empty=true
 hd:iQ K C=true
 po:lg K C=true
 sa:ck K (.ref C) "__setattr__" = some (some (.builtin "object.__setattr__"))
theorem Cls.get{K:aj}(c:Cls K C)(f:Str):gA K C f=true:=c.pg
def rO(K:aj)(C:Addr)(f:Str):Prop:=ck K (.ref C) f=some none
theorem rO.taker{K:aj}{f:Str}(n:rO K C f):i8 K C f=some none:=by unfold i8;rw[show ck K (.ref C) f=some none from n];rfl
structure Meth(K:aj)(C:Addr)(m:Str)(f:Addr):Prop where
 at_:ck K (.ref C) m=some (some (.ref f))
 fn:gQ K (.ref f)=true
 kp:cG K (.ref f)=true
section
variable{X:Cx}{pins:List (Addr×Obj)}{σ:St}{H:Hp}{s:ae}{a C dx:Addr}{fs:List (Str×V)}{f:Str}{v:V}{A:ay}{E:aa->ae->Prop}
theorem Br{b:Bool}(I:Inv X pins σ H s)(e:H a=some (.ins C dx fs))(c:Cls X.K C)(n:rO X.K C f)(l:fs.lookup f=some v)
  (h:∀u s',Inv X pins σ H s'->RelV v u->Q u s'):af (model X.prog X.w) A (getAttr (.ref a) f b) Q E s:=by
 obtain⟨mA,O,r,_,_,_⟩:=sR I.hok e;obtain⟨u,hu,ru⟩:=uC.some_of (v:=v) (o:=mA f) (by rw[<-l];exact r f);exact get_map I.kIn O (c.get f) c.hd n hu (DI ru) (h u _ (I.tok _) ru)
theorem xE{m:Str}{g:Addr}{pl:Sem Bool}{Q:aa×List aa->ae->Prop}(I:Inv X pins σ H s)(e:H a=some (.ins C dx fs))(c:Cls X.K C)(k:Meth X.K C m g)(l:fs.lookup m=none)
  (h:Q (.ref g,[.ref a]) s):af (model X.prog X.w) A (getMethod (.ref a) m pl) Q E s:=by
 obtain⟨mA,O,r,_,_,_⟩:=sR I.hok e;have hn:mA m=none:=uC.none_of (by rw[<-l];exact r m);exact EF I.kIn O (c.get m) k.at_ k.fn hn h
theorem Bs{Q:Unit->ae->Prop}(I:Inv X pins σ H s)(e:H a=some (.ins C dx fs))(c:Cls X.K C)(n:rO X.K C f)(hl:fs.length<1000)(ry:RelV y u)
  (h:∀s',Inv X pins σ (upd H a (.ins C dx (sG f y fs))) s'->Q () s'):af (model X.prog X.w) A (setAttr (.ref a) f u) Q E s:=by
 obtain⟨mA,O,r,wi,_,ho⟩:=sR I.hok e;have hz:(fs.map (·.1)).length<=az:=by rw[ai,cz];omega
 refine G2 I.kIn O c.sa c.po n.taker c.hd wi hz λh' O' sb=>h _ ?_;have hd:∃o,h'.get? dx=some o:=let ⟨o,_,_,e',_⟩:=O'.ns;⟨o,e'⟩;refine I.write (x:=a) (e:=dx) (by rw[e];exact True.intro) (.inr ho) (λb q hb z=>(sb.2 b hb).trans z) hd ?_;refine⟨by rw[nT O.ne];exact ho,?_,O.ne,O'.obj,_,O'.ns,λg=>?_,λg hg=>?_⟩
 ·have:=wC f y fs;omega
 ·show uC ((sG f y fs).lookup g) (if g=f then some u else mA g);rw[wB];by_cases q:g=f
  ·rw[ag q,ag q];exact ry
  ·rw[ah q,ah q];exact r g
 ·by_cases q:g=f
  ·rw[q];exact(vU f y fs).1
  ·refine(vU f y fs).2 g (wi g λz=>hg ?_);show (if g=f then some u else mA g)=none;rw[ah q];exact z
theorem Inv.made(I:Inv X pins σ H s):Inv X pins σ (upd (upd H s.heap.objs.size (.own (s.heap.objs.size+1))) (s.heap.objs.size+1) (.ins C s.heap.objs.size []))
  { s with heap:=(s.heap.push dg).push (dM C s.heap.objs.size) }:=by
 have e1:(s.heap.push dg).get? s.heap.objs.size=some dg:=bx s.heap rfl;have e2:((s.heap.push dg).push (dM C s.heap.objs.size)).get? (s.heap.objs.size+1)=some (dM C s.heap.objs.size):=by
  have:=bx (s.heap.push dg) (o:=dM C s.heap.objs.size) rfl
  rwa [eK]at this
 have e3:(s.heap.push dg).Ns s.heap.objs.size (λ_=>none):=⟨dg,#[],_,e1,rfl,(λe he=>ak he (by simp)),λ_=>rfl⟩;have I1:=I.laid (a:=s.heap.objs.size) (o:=.own (s.heap.objs.size+1)) (h':=s.heap.push dg) (t':=s.toks) (λb u q=>aJ _ q) (aC _) ⟨_,e1⟩;refine I1.laid (a:=s.heap.objs.size+1) (o:=.ins C s.heap.objs.size []) (t':=s.toks) (λb u q=>aJ _ q) (kR (eK _ _)) ?_;have ne:s.heap.objs.size≠s.heap.objs.size+1:=aR (dU _);refine⟨by rw[nT ne,nW],b8 _,ne,e2,λ_=>none,(Heap.Ns1.of_empty e3).at λo q=>aJ _ q,λ_=>True.intro,λy hy=>ak rfl hy⟩
theorem G3{prog:aq}{w:ao}{env:Env}{f:Str}{s:ae}(hb:d6 e f env (eval e env)=eval e env)
  (h:af (model prog w) A (eval e env) (λo s₁=>af (model prog w) A (getAttr o f true) Q E s₁) E s):af (model prog w) A (eval (.Attribute e f pos) env) Q E s:=
 Attribute_any_ h (by rw[arm_eval_Attribute,hb])
end
def O6(K:aj)(ta:TE)(f:Str):TE:=λσ H Q=>ta σ H λx H1=>∃a C dx fs v,x=.ref a/\H1 a=some (.ins C dx fs)/\Cls K C/\rO K C f/\fs.lookup f=some v/\Q v H1
def NK(K:aj)(ta tv:TE)(f:Str):TS:=λD σ H=>tv σ H λy H1=>ta σ H1 λx H2=>∃a C dx fs,x=.ref a/\H2 a=some (.ins C dx fs)/\Cls K C/\rO K C f/\fs.length<1000/\
 D.nx σ (upd H2 a (.ins C dx (sG f y fs)))
section
variable{X:Cx}{o e value:Expr}{f:Str}{pos pos' tpos:Pos}{ta tv:TE}
theorem Kv(he:PE X e ta)(hb:d6 e f X.env (eval e X.env)=eval e X.env):PE X (.Attribute e f pos) (O6 X.K ta f):=by intro pins s σ H Q I h;refine G3 hb (thn (he pins s σ H _ I h) λu s1 zz=>?_);obtain⟨x,H1,I1,rx,a,C,dx,fs,v,ex,ea,c,n,l,q⟩:=zz;subst ex;obtain rfl:u=Value.ref a:=rx;exact Br I1 ea c n l λu' s2 I2 ru=>⟨v,H1,I2,ru,q⟩
theorem Kw(ha:PE X o ta)(hv:PE X value tv)(hs:b9 value (some (.Attribute o f pos')) pos.line X.env=pure false):PS X (.Assign [.Attribute o f pos'] value pos) (NK X.K ta tv f):=by intro pins s σ H D I h;refine plainObj_wpAny_Assign_Attribute (thn (hv pins s σ H _ I h) λu s1 ⟨y,H1,I1,ry,q⟩=>thn (ha pins s1 σ H1 _ I1 q) λov s2 zz=>?_) hs;obtain⟨x,H2,I2,rx,a,C,dx,fs,ex,ea,c,n,l,q2⟩:=zz;subst ex;obtain rfl:ov=Value.ref a:=rx;exact Bs I2 ea c n l ry λs3 I3=>⟨σ,_,I3,q2⟩
end
section
variable{X:Cx}{pins:List (Addr×Obj)}{σ:St}{H:Hp}{s:ae}{A:ay}{E:aa->ae->Prop}{Q:aa->ae->Prop}{c:aa}{b:Bool}
inductive xg(K:aj) (H:Hp):V->aa->Prop where
 |non:xg K H .non (.type "NoneType")
 |bl (x:Bool):xg K H (.bl x) (.type "bool")
 |int (i:Int):xg K H (.int i) (.type "int")
 |str (x:Str):xg K H (.str x) (.type "str")
 |flt (x:UInt64):xg K H (.flt x) (.type "float")
 |lst {a:Addr} {xs:List V} (e:H a=some (.lst xs)):xg K H (.ref a) (.type "list")
 |frz {a:Addr} {o:Obj} {xs:List V} (e:H a=some (.frz o (.lst xs))):xg K H (.ref a) (.type "list")
 |tup {a:Addr} {xs:List V} (e:H a=some (.tup xs)):xg K H (.ref a) (.type "tuple")
 |dK {a:Addr} {kvs:List (Key×V)} (e:H a=some (.dK kvs)):xg K H (.ref a) (.type "dict")
 |dT {a:Addr} {kvs:List (List Key×V)} (e:H a=some (.dT kvs)):xg K H (.ref a) (.type "dict")
 |ins {a C dx:Addr} {fs:List (Str×V)} (e:H a=some (.ins C dx fs)) (cl:Cls K C) (ha:ck K (.ref C) "__class__" = some (some (.builtin "object.__class__")))
   (hn:lh K (.builtin "object.__class__") "__get__" = some (some (.builtin "getset_descriptor.__get__"))) (htk:W.takesIn K (.builtin "object.__class__")=some true)
   (hm:W.mroIn K C (.type "object")=some true):xg K H (.ref a) (.ref C)
theorem rK{x:V}{t:aa}(I:Inv X pins σ H s)(rx:RelV x u)(ty:xg X.K H x t)(e:cm X.K t c=some b)(h:∀tk,Q (.bool b) { s with toks:=tk }):
  af (model X.prog X.w) A (call (.builtin "isinstance") [u,c]) Q E s:=by
 cases ty with
 |non=>cases (show u=Value.none from rx);exact cb W.kitx_none I.kIn True.intro e (λz=>nomatch z) h
 |bl y=>cases (show u=Value.bool y from rx);exact cb W.kitx_bool I.kIn True.intro e (λz=>nomatch z) h
 |int i=>obtain⟨t,q⟩:=(show ∃t,u=Value.int i t from rx);cases q;exact cb W.kitx_int I.kIn True.intro e (λz=>nomatch z) h
 |str y=>obtain⟨t,q⟩:=(show ∃t,u=Value.str y t from rx);cases q;exact cb W.kitx_str I.kIn True.intro e (λz=>nomatch z) h
 |flt y=>obtain⟨t,q⟩:=(show ∃t,u=Value.float y t from rx);cases q;exact cb W.kitx_float I.kIn True.intro e (λz=>nomatch z) h
 |@lst a xs ea=>cases (show u=Value.ref a from rx);obtain⟨_,_,n,_,h1⟩:=(show o8 X.prog X.w H s.heap a (.lst xs) from I.hok a _ ea);exact cb iR I.kIn ⟨_,h1,rfl⟩ e (λz=>nomatch z) h
 |@frz a ob xs ea=>cases (show u=Value.ref a from rx);obtain⟨_,_,_,n,_,h1⟩:=(show o8 X.prog X.w H s.heap a (.frz ob (.lst xs)) from I.hok a _ ea);exact cb iR I.kIn ⟨_,h1,rfl⟩ e (λz=>nomatch z) h
 |@tup a xs ea=>cases (show u=Value.ref a from rx);obtain⟨_,_,_,p⟩:=(show o8 X.prog X.w H s.heap a (.tup xs) from I.hok a _ ea);obtain⟨o,h1,h2,_⟩:=p;exact cb kT I.kIn ⟨o,h1,h2⟩ e (λz=>nomatch z) h
 |@dK a kvs ea=>cases (show u=Value.ref a from rx);obtain⟨_,_,vs,_,p⟩:=(show o8 X.prog X.w H s.heap a (.dK kvs) from I.hok a _ ea);obtain⟨o,es,ep,h1,h2,_⟩:=p;exact cb iU I.kIn ⟨o,h1,h2.1⟩ e (λz=>nomatch z) h
 |@dT a kvs ea=>cases (show u=Value.ref a from rx);obtain⟨_,_,xs,_,o,es,ep,h1,h2,_⟩:=(show o8 X.prog X.w H s.heap a (.dT kvs) from I.hok a _ ea);exact cb iU I.kIn ⟨o,h1,h2.1⟩ e (λz=>nomatch z) h
 |@ins a C dx fs ea cl ha hn htk hm=>cases (show u=Value.ref a from rx);obtain⟨mA,O,_⟩:=sR I.hok ea;obtain⟨od,J,_⟩:=O.look;exact cb (W.kitx_own (cl.get _) cl.hd ha hn htk hm) I.kIn J e (λz=>nomatch z) h
end
structure pf(k:Nat)(A:ay):Prop where
 hd:A.handled=none
 dp:A.depth+3 * k+5<recursionLimit
 un:A.units+16 * k+200<cLine
theorem pf.mono{k:Nat}{A:ay}(r:pf k A)(h:j<=k):pf j A:=⟨r.hd,by have:=r.dp;omega,by have:=r.un;omega⟩
theorem pf.deeper{k:Nat}{A:ay}(r:pf (k+1) A)(env:Env):pf k (A.deeper env):=
 ⟨r.hd,by have:=r.dp;show A.depth+1+3 * k+5<_;omega,by have:=r.un;show A.units+3+16 * k+200<_;omega⟩
theorem Bt{A:ay}:(A.under (.builtin "type.__call__" ⟨.ref C::us,kw⟩)).depth=A.depth+1:=by
 first|rfl|simp[iK,Code.weight,Code.isCreation,Code.isGuard,Code.isCaller,lj,iM,guardIds]
theorem Bu{A:ay}:(A.under (.builtin "type.__call__" ⟨.ref C::us,kw⟩)).units=A.units+1:=by
 first|rfl|simp[iK,Code.cUnits,lj,iM]
theorem pf.make{k:Nat}{A:ay}(r:pf (k+1) A)(C:Addr)(us:List aa)(kw:List (Str×aa)):pf k (A.under (.builtin "type.__call__" ⟨.ref C::us,kw⟩)):=
 ⟨r.hd,by have:=r.dp;rw[Bt];omega,by have:=r.un;rw[Bu];omega⟩
theorem pf.depth{k:Nat}{A:ay}(r:pf k A):A.depth<recursionLimit:=by have:=r.dp;omega
theorem pf.units{k:Nat}{A:ay}(r:pf k A):A.units+64<cLine:=by have:=r.un;omega
def zI:TA:=λ_ H Q=>Q [] H
def xF(ta:TE)(tr:TA):TA:=λσ H Q=>ta σ H λx H1=>tr σ H1 λxs H2=>Q (x::xs) H2
section
variable{X:Cx}{e:Expr}{es:List Expr}{te:TE}{t:TA}{pos:Pos}
theorem tV:PA X [] zI:=λ_ _ _ _ H Q I h=>ik ⟨[],H,I,.nil,h⟩
theorem qY(ha:PE X e te)(hr:PA X es t)(hs:ar (e::es) X.env=(false,eval e X.env)::ar es X.env:=by rfl):PA X (e::es) (xF te t):=by intro pos pins s σ H Q I h;rw[hs];show af _ _ (spliced ((false,eval e X.env)::aX pos (ar es X.env))) _ _ s;refine f9 (thn (ha pins s σ H _ I h) λu s1 zz=>?_);obtain⟨x,H1,I1,r1,q1⟩:=zz;exact thn (hr pos pins s1 σ H1 _ I1 q1) λus s2 ⟨xs,H2,I2,r2,q2⟩=>⟨x::xs,H2,I2,.cons r1 r2,q2⟩
def O7(t:TA):TE:=λσ H Q=>t σ H λxs H1=>xs.length<=az/\∀p,H1 p=none->Q (.ref p) (upd H1 p (.tup xs))
def NL(t:TA):TE:=λσ H Q=>t σ H λxs H1=>xs.length<=az/\∀p,H1 p=none->Q (.ref p) (upd H1 p (.lst xs))
theorem Ky{x1}(h:PA X es t):PE X (.Tuple es x1 pos) (O7 t):=by intro pins s σ H Q I hq;refine wpAny_Tuple_spliced (thn (h pos pins s σ H _ I hq) λus s1 ⟨xs,H1,I1,r,z,q⟩=>⟨by rw[<-r.length];exact z,?_⟩);have hf:H1 s1.heap.objs.size=none:=I1.hok.fresh (aC _);refine⟨.ref s1.heap.objs.size,upd H1 s1.heap.objs.size (.tup xs),I1.laid (t':=s1.toks) (λb u e=>aJ _ e) (aC _) ?_,rfl,q _ hf⟩;exact⟨z,us,r,⟨_,bx _ rfl,rfl,_,rfl⟩⟩
theorem EG(h:PA X es t):PE X (.List es pos) (NL t):=by intro pins s σ H Q I hq;refine wpAny_List_spliced (thn (h pos pins s σ H _ I hq) λus s1 ⟨xs,H1,I1,r,z,q⟩=>⟨by rw[<-r.length];exact z,?_⟩);have hf:H1 s1.heap.objs.size=none:=I1.hok.fresh (aC _);refine⟨.ref s1.heap.objs.size,upd H1 s1.heap.objs.size (.lst xs),I1.laid (t':=s1.toks) (λb u e=>aJ _ e) (aC _) ?_,rfl,q _ hf⟩;exact⟨z,us,0,r,bx _ rfl⟩
end
abbrev Sp:=List V->Hp->VK->XK->Prop
abbrev CXT:=List Env->Hp->ae->XK->aa->ae->Prop
structure Bv(P:aq)(w:ao)(K:aj)(mg:Str->Option aa)(base:Heap)(A:ay)(outer:List Env)(s:ae)(H:Hp):Prop where
 frames:A.frames=some outer
 mod:Mod K mg base
 bs:∀b o,base.get? b=some o->s.heap.get? b=some o/\H b=none
 bsz:base.objs.size<=s.heap.objs.size
 funs:s.heap.FunFrames base outer
 frf:∀b∈frs outer,H b=none
 hok:HOk P w H s.heap
 bare:cX s.gens
def CE(outer:List Env)(P:aq)(w:ao)(H:Hp)(s:ae)(Q:VK)(u:aa)(s':ae):Prop:=
 ∃v H',s'.os=s.os/\cX s'.gens/\Un (frs outer) [] H H' s.heap s'.heap/\HOk P w H' s'.heap/\RelV v u/\Q v H'
def CR(CX:CXT)(outer:List Env)(P:aq)(w:ao)(H:Hp)(s:ae)(Q:VK)(E:XK)(r:cY)(s':ae):Prop:=
 match r with
 |.ok (.ret u)=>CE outer P w H s Q u s'
 |.ok _=>False
 |.error e=>CX outer H s E e s'
structure qD(P:aq)(w:ao)(K:aj)(mg:Str->Option aa)(base:Heap)(CX:CXT)(k:Nat)(f:Addr)(fd:bu)(ps:List Str)(sp:Sp):Prop where
 len:∀vs H Q E,sp vs H Q E->vs.length=ps.length
 run:∀(A:ay) (outer:List Env) (s:ae) (H:Hp) (args:Args) (us:List aa) (vs:List V) (Q:VK) (E:XK),pf k A->Bv P w K mg base A outer s H->fi s fd args (ps.zip us)->Vals vs us->sp vs H Q E->
  bV (model P w) A (.call (.ref f) args) (CR CX outer P w H s Q E) s
variable{mg:Str->Option aa}{base:Heap}{CX:CXT}{fd:bu}{ps:List Str}{sp:Sp}
theorem qD.imp{P:aq}{w:ao}{K:aj}{k:Nat}{f:Addr}{sp':Sp}(F:qD P w K mg base CX k f fd ps sp)
  (h:∀vs H Q E,sp' vs H Q E->sp vs H Q E):qD P w K mg base CX k f fd ps sp':=
 ⟨λvs H Q E q=>F.len vs H Q E (h _ _ _ _ q),λA outer s H args us vs Q E hr he hb hv hs=>F.run A outer s H args us vs Q E hr he hb hv (h _ _ _ _ hs)⟩
variable{outer:List Env}
theorem Bv.make{P:aq}{w:ao}{K:aj}{A:ay}{s:ae}{H:Hp}(e:Bv P w K mg base A outer s H)(C:Addr)(us:List aa)(kw:List (Str×aa)):
  Bv P w K mg base (A.under (.builtin "type.__call__" ⟨.ref C::us,kw⟩)) outer s H:=⟨by first|exact e.frames|(simpa [iK,Code.envs,iM,pushEnvs]using e.frames),e.mod,e.bs,e.bsz,e.funs,e.frf,e.hok,e.bare⟩
section
variable{X:Cx}{pins:List (Addr×Obj)}{σ:St}{H:Hp}{s s':ae}
theorem Inv.env0(I:Inv X pins σ H s):Bv X.prog X.w X.K X.mg X.base X.A X.stack s H:=
 ⟨I.ok.frames,I.ok.mod,I.bs,bH I.ok.bsz I.sz,I.stack,I.stkFree,I.hok,I.bare⟩
theorem Inv.after{Q:VK}(I:Inv X pins σ H s)(h:CE X.stack X.prog X.w H s Q u s'):EP X pins σ Q u s':=by obtain⟨v,H',os,bare,un,hok,r,q⟩:=h;obtain⟨hh,g,d,t,os'⟩:=s';obtain rfl:os'=s.os:=os;exact⟨v,H',I.call (h':=hh) (g':=g) (d':=d) (t':=t) (ch:=[]) un hok bare (λb z=>ak z (by simp)),r,q⟩
end
def uF(sp:Sp)(dvs:List V)(E:XK)(t:TA):TE:=λσ H Q=>t σ H λvs H1=>sp (vs++dvs) H1 Q E
def Cf(C:Addr)(sp:Sp)(dvs:List V)(E:XK)(t:TA):TE:=λσ H Q=>t σ H λvs H1=>∀x dx,H1 x=none->H1 dx=none->dx≠x->
 sp (.ref x::(vs++dvs)) (upd (upd H1 dx (.own x)) x (.ins C dx [])) (λv H2=>v=.non/\Q (.ref x) H2) E
def Binds(K:aj)(fd:bu)(ps:List Str)(ds:List aa):Prop:=
 ∀(s:ae) (us:List aa),K.In s.heap->(us++ds).length=ps.length->fi s fd ⟨us,[]⟩ (ps.zip (us++ds))
theorem Binds.all{K:aj}(h:∀us:List aa,us.length=ps.length->bindArgs fd ⟨us,[]⟩=pure (ps.zip us)):Binds K fd ps []:=λs us _ hl=>by rw[bK]at hl ⊢;exact .of_eq (h us hl)
def Passes(CX:CXT)(X:Cx)(E:XK):Prop:=∀(pins:List (Addr×Obj)) (σ:St) (H:Hp) (s:ae) (e:aa) (s':ae),Inv X pins σ H s->CX X.stack H s E e s'->X.xe e s'
section
variable{X:Cx}{CX:CXT}{k:Nat}{f C:Addr}{fd:bu}{ps:List Str}{sp:Sp}{dvs:List V}{ds:List aa}{E:XK}{x m:Str}{p pos apos:Pos}{e o:Expr}{es:List Expr}{ta:TE}{t:TA}
theorem zJ{H:Hp}{s:ae}{Q:VK}{vs:List V}(F:qD X.prog X.w X.K X.mg X.base CX k f fd ps sp)(hr:pf k X.A)(hb:Binds X.K fd ps ds)(hd:Vals dvs ds)(hx:Passes CX X E)
  (I:Inv X pins σ H s) (r:Vals vs us) (h:sp (vs++dvs) H Q E):af (model X.prog X.w) X.A (call (.ref f) us) (EP X pins σ Q) X.xe s:=by
 have r2:Vals (vs++dvs) (us++ds):=r.append hd;have hl:(us++ds).length=ps.length:=by rw[<-r2.length];exact F.len _ _ _ _ h
 refine gB (ee (F.run X.A X.stack s H ⟨us,[]⟩ (us++ds) (vs++dvs) Q E hr I.env0 (hb s us I.kIn hl) r2 h) λr s' hq=>?_);cases r with
 |error e=>exact hx pins σ H s e s' I hq
 |ok fl=>
  cases fl with
  |ret u=>exact I.after hq
  |next=>exact bQ hq
  |brk=>exact bQ hq
  |cont=>exact bQ hq
theorem xn(F:qD X.prog X.w X.K X.mg X.base CX k f fd ps sp)(hr:pf k X.A)(hg:Gl X x)(hm:X.mg x=some (.ref f))(hk:cG X.K (.ref f)=true)(hb:Binds X.K fd ps ds)(hd:Vals dvs ds)(hx:Passes CX X E)
  (ha:PA X (e::es) t) (hdb:(x==("__debug__" : Str))=false:=by decide) (he:ar (e::es) X.env=(false,eval e X.env)::ar es X.env:=by rfl) (hpl:(aX pos (ar es X.env)).any (·.1)=false:=by rfl):
  PE X (.Call (.Name x p) (e::es) [] pos) (uF sp dvs E t):=by
 intro pins s σ H Q I h;refine dv (sQ I hg hm ?_ hdb);refine gu (h₀:=X.base) I.ok.mod.kin hk (thn (ha pos pins s σ H _ I h) λus s1 ⟨vs,H1,I1,r,q⟩=>⟨I1.kIn,?_⟩) he hpl;exact zJ F hr hb hd hx I1 r q
theorem Ar(F:qD X.prog X.w X.K X.mg X.base CX k f fd ps sp)(hr:pf k X.A)(hg:Gl X x)(hm:X.mg x=some (.ref f))(hk:cG X.K (.ref f)=true)(hb:Binds X.K fd ps ds)(hd:Vals dvs ds)(hx:Passes CX X E)
  (hdb:(x==("__debug__" : Str))=false:=by decide):PE X (.Call (.Name x p) [] [] pos) (uF sp dvs E zI):=by
 intro pins s σ H Q I h;refine dv (sQ I hg hm ?_ hdb);exact kE I.kIn hk (zJ (us:=[]) F hr hb hd hx I .nil h)
structure Mk(K:aj)(C f:Addr):Prop where
 makes:W.makesIn K C=true
 init:ck K (.ref C) "__init__" = some (some (.ref f))
 fn:gQ K (.ref f)=true
 kp:cG K (.ref C)=true
theorem EH{H:Hp}{s:ae}{Q:VK}{vs:List V}(M:Mk X.K C f)(F:qD X.prog X.w X.K X.mg X.base CX k f fd ps sp)(hr:pf (k+1) X.A)(hb:Binds X.K fd ps ds)(hd:Vals dvs ds)
  (hx:Passes CX X E) (I:Inv X pins σ H s) (r:Vals vs us)
  (h:∀x dx,H x=none->H dx=none->dx≠x->sp (.ref x::(vs++dvs)) (upd (upd H dx (.own x)) x (.ins C dx [])) (λv H2=>v=.non/\Q (.ref x) H2) E):
  af (model X.prog X.w) X.A (call (.ref C) us) (EP X pins σ Q) X.xe s:=by
 have hq:=h (s.heap.objs.size+1) s.heap.objs.size (I.hok.fresh (gz _)) (I.hok.fresh (aC _)) (aR (dU _));have I2:=Inv.made (C:=C) I;have r2:Vals (V.ref (s.heap.objs.size+1)::(vs++dvs)) (Value.ref (s.heap.objs.size+1)::(us++ds)):=.cons rfl (r.append hd);have hl:(Value.ref (s.heap.objs.size+1)::us++ds).length=ps.length:=by have e:=r2.length;rw[F.len _ _ _ _ hq]at e;exact e.symm
 refine gB (Aq (f:=f) I.kIn M.makes M.init (beq_iff_eq.mp M.fn) (ee (F.run _ X.stack _ _ ⟨Value.ref (s.heap.objs.size+1)::us,[]⟩ (Value.ref (s.heap.objs.size+1)::(us++ds)) _ _ E (hr.make C us [])
  (I2.env0.make C us []) (hb _ (Value.ref (s.heap.objs.size+1)::us) I2.kIn hl) r2 hq) λr s' hq'=>?_))
 cases r with
 |error e=>exact hx pins σ _ _ e s' I2 hq'
 |ok fl=>
  cases fl with
  |ret u=>obtain⟨v,H',I3,rv,ev,q3⟩:=I2.after hq';subst ev;exact⟨rv,⟨V.ref (s.heap.objs.size+1),H',I3,rfl,q3⟩⟩
  |next=>exact bQ hq'
  |brk=>exact bQ hq'
  |cont=>exact bQ hq'
theorem G4(M:Mk X.K C f)(F:qD X.prog X.w X.K X.mg X.base CX k f fd ps sp)(hr:pf (k+1) X.A)(hg:Gl X x)(hm:X.mg x=some (.ref C))(hb:Binds X.K fd ps ds)(hd:Vals dvs ds)(hx:Passes CX X E)
  (ha:PA X (e::es) t) (hdb:(x==("__debug__" : Str))=false:=by decide) (he:ar (e::es) X.env=(false,eval e X.env)::ar es X.env:=by rfl) (hpl:(aX pos (ar es X.env)).any (·.1)=false:=by rfl):
  PE X (.Call (.Name x p) (e::es) [] pos) (Cf C sp dvs E t):=by
 intro pins s σ H Q I h;refine dv (sQ I hg hm ?_ hdb);refine gu (h₀:=X.base) I.ok.mod.kin M.kp (thn (ha pos pins s σ H _ I h) λus s1 ⟨vs,H1,I1,r,q⟩=>⟨I1.kIn,?_⟩) he hpl;exact EH M F hr hb hd hx I1 r q
end
structure pJ(N P:List Str)(sc:bW):Prop where
 kind:sc.kind=.function
 co:sc.isCoroutine=false
 gen:sc.isGenerator=false
 nd:N.Nodup
 pre:N.take P.length=P
 par:∀x∈P,sc.names.lookup x=some .local\/sc.names.lookup x=some .cell
 nofree:∀y∈sc.names,y.2≠.free
theorem yT{kindOf:Str->Option cU}{x:Str}:∀{binds:List (Str×aa)} {m:Str->Option aa},(∀v,(x,v)∉binds)->bindL kindOf binds m x=m x
 |[],_,_=>rfl
 |(n,v)::r,m,h=>by
  unfold bindL;rw[yT λw hw=>h w (aM _ hw)];split
  ·have:x≠n:=by rintro rfl;exact h v aH
   simp[this]
  ·rfl
theorem yU{kindOf:Str->Option cU}{x:Str}:∀{binds:List (Str×aa)} {m:Str->Option aa},(∀v,(x,v)∉binds)->bindC kindOf binds m x=m x
 |[],_,_=>rfl
 |(n,v)::r,m,h=>by
  unfold bindC;rw[yU λw hw=>h w (aM _ hw)];split
  ·rfl
  ·have:x≠n:=by rintro rfl;exact h v aH
   simp[this]
theorem yV{kindOf:Str->Option cU}{x:Str}{v:aa}:∀{P:List Str} {vs:List aa} {i:Nat} {m:Str->Option aa},P.Nodup->P[i]?=some x->vs[i]?=some v->kindOf x=some .local->
  bindL kindOf (P.zip vs) m x=some v
 |[],_,_,_,_,h,_,_=>by simp at h
 |_::_,[],_,_,_,_,h,_=>by simp at h
 |p::P,w::vs,0,m,nd,h1,h2,hk=>by simp at h1 h2;subst h1;subst h2;show bindL kindOf ((p,w)::P.zip vs) m p=_;unfold bindL;rw[yT λv hv=>(dY.mp nd).1 (gm hv).1,ag hk];simp
 |p::P,w::vs,i+1,m,nd,h1,h2,hk=>by show bindL kindOf ((p,w)::P.zip vs) m x=_;unfold bindL;exact yV (i:=i) (dY.mp nd).2 (by simpa using h1) (by simpa using h2) hk
theorem yW{kindOf:Str->Option cU}{x:Str}{v:aa}:∀{P:List Str} {vs:List aa} {i:Nat} {m:Str->Option aa},P.Nodup->P[i]?=some x->vs[i]?=some v->kindOf x≠some .local->
  bindC kindOf (P.zip vs) m x=some v
 |[],_,_,_,_,h,_,_=>by simp at h
 |_::_,[],_,_,_,_,h,_=>by simp at h
 |p::P,w::vs,0,m,nd,h1,h2,hk=>by simp at h1 h2;subst h1;subst h2;show bindC kindOf ((p,w)::P.zip vs) m p=_;unfold bindC;rw[yU λv hv=>(dY.mp nd).1 (gm hv).1,ah hk];simp
 |p::P,w::vs,i+1,m,nd,h1,h2,hk=>by show bindC kindOf ((p,w)::P.zip vs) m x=_;unfold bindC;exact yW (i:=i) (dY.mp nd).2 (by simpa using h1) (by simpa using h2) hk
def start(N:List Str)(vs:List V):St:=vs.map some++gn (N.length - vs.length) none
def zK(CX:CXT)(P:aq)(w:ao)(K:aj)(mg:Str->Option aa)(base:Heap)(N:List Str)(qual:Str)(scope:bW)(f:Addr)(cd:aa)(A:ay)(outer:List Env)(s:ae)(H:Hp)(E:XK):Cx where
 prog:=P
 w:=w
 K:=K
 mg:=mg
 base:=base
 A:=A.deeper (envOfC qual scope s.heap.objs.size f cd)
 N:=N
 s₀:=s
 H₀:=H
 env:=envOfC qual scope s.heap.objs.size f cd
 outer:=outer
 stack:=envOfC qual scope s.heap.objs.size f cd::outer
 ex:=[]
 calm:=true
 fn:=λ_=>true
 pn:=[]
 xe:=λe s'=>af (model P w) (A.deeper (envOfC qual scope s.heap.objs.size f cd)) (leaving (envOfC qual scope s.heap.objs.size f cd) e) (λ_ s''=>CX outer H s E e s'') (λe' s''=>CX outer H s E e' s'') s'
theorem As{sc:bW}{n:Nat}(h:sc.names.lookup x=some .cell):∃c,(cellsFrom n sc.names []).lookup x=some c:=by have q:=j5 sc.names n [] (.inl h);exact Option.isSome_iff_exists.mp q
variable{qual:Str}{scope:bW}
theorem DJ{P:aq}{w:ao}{K:aj}{f:Addr}{cd:aa}{A:ay}{s s1:ae}{H:Hp}{E:XK}{vs:List V}
  (S:pJ N ps scope) (hd:A.handled=none) (e0:Bv P w K mg base A outer s H) (hl:vs.length=ps.length) (r:Vals vs us)
  (x:InCallC s s.heap.objs.size (bindL (envOfC qual scope s.heap.objs.size f cd).kindOf (ps.zip us) λ_=>none) (cellsFrom (s.heap.objs.size+1) scope.names []) (bindC (envOfC qual scope s.heap.objs.size f cd).kindOf (ps.zip us) λ_=>none) s1):
  Inv (zK CX P w K mg base N qual scope f cd A outer s H E) [] (start N vs) H s1:=by
 have hpl:ps.length<=N.length:=by have:=aL cg S.pre;rw[bp]at this;omega
 obtain⟨h1,tk,rfl,hk⟩:=x.done;have noA:∀b:Addr,b∉(zK CX P w K mg base N qual scope f cd A outer s H E).ex:=λb z=>ak (show b∈([]:List Addr) from z) (by simp);refine⟨⟨e0.mod,S.kind,rfl,rfl,aC _,λy z c h1 h2=>?_,λy hy=>?_,λy c _ h=>?_,λ_=>hd,Around.frames_deeper e0.frames,.inr ⟨rfl,rfl⟩,λb z=>ak z (noA b),e0.bs,e0.bsz,λb _ _=>noA b,λb z=>ak z (noA b),e0.funs,e0.frf⟩,
  rfl,e0.bare,Un.kept hk,⟨_,x.toInCall.ns,λi y v h1 h2 h3=>?_⟩,λy c h=>⟨_,x.cell y c h⟩,e0.hok.fresh (aC _),λy c h=>?_,λp hp=>ak (show p∈([]:List (Addr×Obj)) from hp) (by simp),e0.hok.kept hk,?_⟩
 ·exact name_of_addr x.apart (fC h1) (fC h2)
 ·have hy:scope.names.lookup y=some .cell\/scope.names.lookup y=some .free:=hy;rcases hy with hy|hy
  ·exact As hy
  ·exact ak rfl (S.nofree _ (fC hy))
 ·exact gr (x.above y c (fC h))
 ·have hi:i<vs.length:=by
   unfold start at h2;by_cases hi:i<vs.length
   ·exact hi
   ·rw[dr (by simpa using hi)]at h2;rw[fX]at h2;split at h2<;>cases h2
  have ha:vs[i]?=some v:=by
   unfold start at h2;rw[cZ (by simpa using hi),bb]at h2;cases e:vs[i]? with
   |none=>rw[e]at h2;cases h2
   |some a=>rw[e]at h2;cases h2;rfl
  obtain⟨u,hu,rv⟩:=r.get ha;have hp:ps[i]?=some y:=by rw[<-S.pre,List.getElem?_take_of_lt (by omega)];exact h1
  have ndP:ps.Nodup:=by rw[<-S.pre];exact S.nd.sublist (il _ _)
  refine⟨u,rv,?_⟩;rcases S.par y (bw hp)with k|k
  ·exact .inl ⟨k,yV ndP hp hu k⟩
  ·obtain⟨c,e⟩:=As (n:=s.heap.objs.size+1) k;refine .inr ⟨.inl k,c,e,?_⟩;have q:=x.cell y c e;rw[yW ndP hp hu (by show scope.names.lookup y≠_;rw[k];decide)]at q;exact q
 ·exact e0.hok.fresh (gr (x.above y c (fC h)))
 ·unfold start;show _=N.length;rw[aB,ai,bX];omega
theorem Au{P:aq}{w:ao}{K:aj}{k:Nat}{f:Addr}{name:Str}{params:Arguments}{dV kV doc pm cdv ct oc:aa}{an od:Option Addr}
  {osl:Array (Option aa)} (lk:K.lookup f=some ⟨oc,od,.func (dq name qual params body scope dV kV doc pm an cdv ct),osl⟩) (hcd:eY K cdv qual=true) (S:pJ N ps scope)
  (len:∀vs H Q E,sp vs H Q E->vs.length=ps.length)
  (hbody:∀(A:ay) (outer:List Env) (s:ae) (H:Hp) (vs:List V) (Q:VK) (E:XK),pf k (A.deeper (envOfC qual scope s.heap.objs.size f cdv))->sp vs H Q E->
   ∃t,PSs (zK CX P w K mg base N qual scope f cdv A outer s H E) body t/\t { nx:=λ_ H'=>Q .non H',rt:=Q } (start N vs) H):
  qD P w K mg base CX (k+1) f (dq name qual params body scope dV kV doc pm an cdv ct) ps sp:=by
 refine⟨len,λA outer s H args us vs Q E hr e0 hb r hsp=>?_⟩;have hl:=len _ _ _ _ hsp;have KX:K.In s.heap:=e0.mod.kin.keeps λb o e=>(e0.bs b o e).1;have lim:s.heap.NoLimit:=e0.mod.nolimit.keeps λb o e=>(e0.bs b o e).1;have hkind:∀y∈ps.zip us,scope.names.lookup y.1=some .local\/(scope.names.lookup y.1=some .cell/\((cellsFrom (s.heap.objs.size+1) scope.names []).lookup y.1).isSome=true):=λ⟨n,v⟩ hy=>by
  rcases S.par n (gm hy).1 with q|q
  ·exact .inl q
  ·exact .inr ⟨q,j5 _ _ _ (.inl q)⟩
 refine codeAny_call_function hr.depth (KX _ _ lk) rfl S.co S.gen rfl (W.codeRec_of KX hcd) (hb _ _ _ _ ?_);refine wpAny_newFunctionEnv_cells S.kind hkind λenv he s1 x=>?_;subst he;refine⟨lim.keeps x.toInCall.keep,codeAny_func ?_⟩;obtain⟨t,ht,hq⟩:=hbody A outer s H vs Q E (hr.deeper _) hsp;have I:Inv (zK CX P w K mg base N qual scope f cdv A outer s H E) [] (start N vs) H s1:=DJ S hr.hd e0 hl r x;refine br (ht [] s1 (start N vs) H _ I hq) (λfl s' hs=>?_) λe s' hs=>hs;have fin:∀{σ':St} {H':Hp} {v:V} {u:aa},Inv (zK CX P w K mg base N qual scope f cdv A outer s H E) [] σ' H' s'->RelV v u->Q v H'->CE outer P w H s Q u s':=
  λ{σ' H' v u} J rv q=>⟨v,H',J.os,J.bare,J.base,J.hok,rv,q⟩
 cases fl with
 |ret u=>obtain⟨v,σ',H',J,rv,q⟩:=hs;exact fin J rv q
 |next=>obtain⟨σ',H',J,q⟩:=hs;exact fin (v:=V.non) (u:=Value.none) J rfl q
 |brk=>obtain⟨_,_,_,q⟩:=hs;exact bQ q
 |cont=>obtain⟨_,_,_,q⟩:=hs;exact bQ q
section
variable{X:Cx}{x:Str}{p pos:Pos}{e:Expr}{es:List Expr}{t:TA}{id T:String}{r:List V->Hp->VK->Prop}
def tCB(r:List V->Hp->VK->Prop)(t:TA):TE:=λσ H Q=>t σ H λvs H1=>r vs H1 Q
theorem tW(hc:pR X (.builtin id) r)(hg:Gl X x)(hm:X.mg x=none)(hv:cQ x=some (.builtin id))(ha:PA X (e::es) t)(hn:x≠"__name__" := by decide)(hdb:(x==("__debug__" : Str))=false:=by decide)
  (he:ar (e::es) X.env=(false,eval e X.env)::ar es X.env:=by rfl) (hpl:(aX pos (ar es X.env)).any (·.1)=false:=by rfl):PE X (.Call (.Name x p) (e::es) [] pos) (tCB r t):=by
 intro pins s σ H Q I h;refine dv (uU I hg hm hv ?_ hn hdb);exact callWith_builtin1 (thn (ha pos pins s σ H _ I h) λus s1 ⟨vs,H1,I1,r1,q1⟩=>hc pins s1 σ H1 vs us Q I1 r1 q1) he hpl
theorem DK(hc:pR X (.type T) r)(hg:Gl X x)(hm:X.mg x=none)(hv:cQ x=some (.type T))(ha:PA X (e::es) t)(hn:x≠"__name__" := by decide)(hdb:(x==("__debug__" : Str))=false:=by decide)
  (he:ar (e::es) X.env=(false,eval e X.env)::ar es X.env:=by rfl) (hpl:(aX pos (ar es X.env)).any (·.1)=false:=by rfl):PE X (.Call (.Name x p) (e::es) [] pos) (tCB r t):=by
 intro pins s σ H Q I h;refine dv (uU I hg hm hv ?_ hn hdb);exact callWith_type1 (thn (ha pos pins s σ H _ I h) λus s1 ⟨vs,H1,I1,r1,q1⟩=>hc pins s1 σ H1 vs us Q I1 r1 q1) he hpl
end
end L2
namespace HT
open PySem PyProof.Rows
section
variable{prog:aq}{w:ao}{A:ay}{E:aa->ae->Prop}{s:ae}
theorem G5{t b:Addr}{vs ws:List aa}{Q:aa->ae->Prop}(ht:IsTup s.heap t vs.toArray)(hb:IsTup s.heap b ws.toArray)(hv:vs≠[])
  (h1:ws=[]->Q (.ref t) s) (h2:ws≠[]->Q (.ref s.heap.objs.size) { s with heap:=s.heap.push { cls:=.type "tuple", data:=.seq (vs++ws).toArray } })
  (hsz:vs.length+ws.length<=az):af (model prog w) A (cF .Add (.ref t) (.ref b)) Q E s:=by
 obtain⟨⟨cls,dd,data,sl⟩,ho,hc,n,hd⟩:=id ht;obtain⟨⟨cls2,dd2,data2,sl2⟩,ho2,hc2,n2,hd2⟩:=id hb;simp only at hc hd hc2 hd2;subst hc hd hc2 hd2;have e:vs.toArray++ws.toArray=(vs++ws).toArray:=by simp
 by_cases hw:ws=[]
 ·exact concat_meets ⟨_,ho,rfl⟩ ⟨_,ho2,rfl⟩ j6 kF j7 jW (jN _ _)
   (tuple_addW1 t b vs.toArray ws.toArray n n2 dd dd2 sl sl2 (by simpa using hv) (by simp[hw])) ⟨ho,ho2,h1 hw⟩
 ·refine concat_meets ⟨_,ho,rfl⟩ ⟨_,ho2,rfl⟩ j6 kF j7 jW (jN _ _)
   (tuple_addW2 t b vs.toArray ws.toArray n n2 dd dd2 sl sl2 (by simpa using hv) (by simpa using hw) (by rw[aQ,aQ];exact hsz)) ⟨ho,ho2,?_⟩
  rw[e];exact h2 hw
def sIx(n d:Nat):Option Int->Nat
 |none=>d
 |some v=>if v<0 then (v+(n:Int)).toNat else min v.toNat n
theorem Av(n d:Nat):sIx n d none=d:=rfl
theorem Cg(n d k:Nat):sIx n d (some (k:Int))=min k n:=by show (if (k:Int)<0 then ((k:Int)+(n:Int)).toNat else min (k:Int).toNat n)=min k n;rw[ah (by omega),ip]
end
end HT
namespace L2
open PySem PySem.Spec PyProof.Rows
abbrev TO:=St->Hp->(Option Int->Hp->Prop)->Prop
def PO(X:Cx)(e:Option Expr)(t:TO):Prop:=
 ∀(pins:List (Addr×Obj)) (s:ae) (σ:St) (H:Hp) (Q:Option Int->Hp->Prop),Inv X pins σ H s->t σ H Q->
  af (model X.prog X.w) X.A (evalPart e X.env) (λu s'=>∃o H',Inv X pins σ H' s'/\IsPart u o/\Q o H') X.xe s
def G6:TO:=λ_ H Q=>Q none H
def NM(t:TE):TO:=λσ H Q=>t σ H λx H1=>∃i,x=.int i/\Q (some i) H1
section
variable{X:Cx}{e:Expr}{te:TE}{lo hi:Option Expr}{tl th:TO}{pos p2:Pos}
theorem G7:PO X none G6:=by intro pins s σ H Q I h;rw[kG];exact aD ⟨none,H,I,.none,h⟩
theorem G8(h:PE X e te):PO X (some e) (NM te):=by intro pins s σ H Q I hw;rw[evalPart_some];refine thn (h pins s σ H _ I hw) λu s1 zz=>?_;obtain⟨x,H1,I1,r1,q1⟩:=zz;obtain⟨i,rfl,q⟩:=q1;obtain⟨t,rfl⟩:=r1;exact⟨some i,H1,I1,.int i t,q⟩
def SlR(X:Cx)(r:V->Option Int->Option Int->Hp->VK->Prop):Prop:=
 ∀(pins:List (Addr×Obj)) (s:ae) (σ:St) (H:Hp) (x:V) (v vl vu:aa) (lo hi:Option Int) (sl:Addr) (Q:VK),Inv X pins σ H s->RelV x v->s.heap.IsSliceOf sl vl vu .none->IsPart vl lo->IsPart vu hi->r x lo hi H Q->
  ∃T id,typeLookup (.type T) "__getitem__" = pure (some (.builtin id))/\s.TypeIs v T/\af (model X.prog X.w) X.A (getItem v (.ref sl)) (EP X pins σ Q) X.xe s
def tSl(r:V->Option Int->Option Int->Hp->VK->Prop)(te:TE)(tl th:TO):TE:=λσ H Q=>te σ H λx H1=>tl σ H1 λl H2=>th σ H2 λu H3=>r x l u H3 Q
theorem EI{r:V->Option Int->Option Int->Hp->VK->Prop}(hr:SlR X r)(he:PE X e te)(hl:PO X lo tl)(hu:PO X hi th):PE X (.Subscript e (.Slice lo hi none p2) pos) (tSl r te tl th):=by intro pins s σ H Q I h;refine i3 (thn (he pins s σ H _ I h) λv s1 zz=>?_);obtain⟨x,H1,I1,r1,q1⟩:=zz;refine wpAny_Slice (thn (hl pins s1 σ H1 _ I1 q1) λvl s2 ⟨l,H2,I2,pl,q2⟩=>thn (hu pins s2 σ H2 _ I2 q2) λvu s3 zz=>?_);obtain⟨u,H3,I3,pu,q3⟩:=zz;rw[kG];refine aD ?_;have I4:Inv X pins σ H3 { s3 with heap:=s3.heap.push { cls:=.type "slice", data:=.fields #[vl,vu,.none] } }:=I3.kept (t':=s3.toks) λb ob q=>aJ _ q;obtain⟨T,id,hT,ht,hg⟩:=hr pins { s3 with heap:=s3.heap.push { cls:=.type "slice", data:=.fields #[vl,vu,.none] } } σ H3 x v vl vu l u s3.heap.objs.size Q I4 r1 (nt ..) pl pu q3;show af (model X.prog X.w) X.A (subscriptTail e (.Slice lo hi none p2) v (.ref s3.heap.objs.size)) (EP X pins σ Q) X.xe { s3 with heap:=s3.heap.push { cls:=.type "slice", data:=.fields #[vl,vu,.none] } };exact tail_any (ops:=[.ref s3.heap.objs.size,v]) ht hT hg (by with_unfolding_all rfl)
def DL(xs:List V)(lo hi:Option Int):List V:=(xs.drop (HT.sIx xs.length 0 lo)).take (HT.sIx xs.length xs.length hi - HT.sIx xs.length 0 lo)
theorem Aw(xs:List V)(lo hi:Option Int):(DL xs lo hi).length<=xs.length:=by unfold DL;rw[bp,cp];omega
def NN(K:aj):R2:=λx y H Q=>∃a b xs ys,x=.ref a/\y=.ref b/\SqT K H a xs/\SqT K H b ys/\xs≠[]/\xs.length+ys.length<=az/\
 (ys=[]->Q (.ref a) H)/\(ys≠[]->∀p,H p=none->Q (.ref p) (upd H p (.tup (xs++ys))))
theorem Vals.nil_iff{xs:List V}{us:List aa}(r:Vals xs us):us=[] ↔ xs=[]:=by
 cases r with
 |nil=>simp
 |cons _ _=>simp
theorem G9:OpR X (cF .Add) (NN X.K):=by intro pins s σ H x y v u Q I rx ry h;obtain⟨a,b,xs,ys,rfl,rfl,ha,hb,hx,hz,q1,q2⟩:=h;cases rx;cases ry;obtain⟨its,r1,p1,_⟩:=I.tuple ha;obtain⟨its2,r2,p2,_⟩:=I.tuple hb;refine HT.G5 p1 p2 (λz=>hx (r1.nil_iff.mp z)) (λz=>⟨.ref a,H,I,rfl,q1 (r2.nil_iff.mp z)⟩) (λz=>?_) (by rw[<-r1.length,<- r2.length];exact hz);refine⟨.ref s.heap.objs.size,_,I.laid (t':=s.toks) (o:=.tup (xs++ys)) (λb ob q=>aJ _ q) (aC _) ?_,rfl,q2 (λw=>z (r2.nil_iff.mpr w)) _ (I.hok.fresh (aC _))⟩;exact⟨by rw[aB];exact hz,_,r1.append r2,IsTup.new _ _⟩
end
def ixN(n:Nat)(i:Int):Option Nat:=if 0<=i then (if i<n then some i.toNat else none)else if -(n:Int)<=i then some (i+n).toNat else none
def atI{α:Type}(xs:List α)(i:Int):Option α:=(ixN xs.length i).bind λj=>xs[j]?
variable{j:Nat}
theorem Ci{n:Nat}{i:Int}(h:ixN n i=some j):seqIndex? i n=some j/\j<n/\-(n:Int)<=i/\i<n:=by
 unfold ixN at h;by_cases h0:0<=i
 ·rw[ag h0]at h;by_cases h1:i<n
  ·rw[ag h1]at h;have e:i.toNat=j:=bT h;exact⟨by rw[iV h0 h1,e],by omega,by omega,h1⟩
  ·rw[ah h1]at h;cases h
 ·rw[ah h0]at h;by_cases h1:-(n:Int)<=i
  ·rw[ag h1]at h;have e:(i+n).toNat=j:=bT h;exact⟨by rw[iN (by omega) h1,e],by omega,h1,by omega⟩
  ·rw[ah h1]at h;cases h
theorem zL{α:Type}{xs:List α}{i:Int}{v:α}(h:atI xs i=some v):∃j,seqIndex? i xs.length=some j/\xs[j]?=some v/\j<xs.length/\-(xs.length:Int)<=i/\i<xs.length:=by
 unfold atI at h;cases e:ixN xs.length i with
 |none=>rw[e]at h;cases h
 |some j=>rw[e]at h;obtain⟨h1,h2,h3,h4⟩:=Ci e;exact⟨j,h1,h,h2,h3,h4⟩
theorem sd{α:Type}{xs:List α}{v:α}(h:xs[j]?=some v):atI xs (j:Int)=some v:=by
 have hj:j<xs.length:=(bo.mp h).1;have e:ixN xs.length (j:Int)=some j:=by unfold ixN;rw[ag (by omega),ag (by omega)];simp
 unfold atI;rw[e];exact h
def Cj(b:Expr):Prop:=∀o i,subscripted b false o i=operate [o,i] (getItem o i)
def IxR(X:Cx)(r:R2):Prop:=
 ∀(value slice:Expr) (pins:List (Addr×Obj)) (s:ae) (σ:St) (H:Hp) (x y:V) (v u:aa) (Q:VK),Inv X pins σ H s->RelV x v->RelV y u->r x y H Q->
  subscripted slice false v u=operate [v,u] (getItem v u)->af (model X.prog X.w) X.A (subscriptTail value slice v u) (EP X pins σ Q) X.xe s
def MtR(X:Cx)(id:String)(r:V->List V->Hp->VK->Prop):Prop:=
 ∀(pins:List (Addr×Obj)) (s:ae) (σ:St) (H:Hp) (x:V) (xs:List V) (v:aa) (us:List aa) (Q:VK),Inv X pins σ H s->RelV x v->Vals xs us->r x xs H Q->
  af (model X.prog X.w) X.A (call (.builtin id) (v::us)) (EP X pins σ Q) X.xe s
variable{pins:List (Addr×Obj)}{σ:St}{its its':List aa}{y:V}{u:aa}{T:String}
section
variable{X:Cx}{a b:Expr}{ta tb:TE}{pos:Pos}
theorem IxR.or{r r':R2}(h:IxR X r)(h':IxR X r'):IxR X (λx y H Q=>r x y H Q\/r' x y H Q):=by
 intro value slice pins s σ H x y v u Q I rx ry q hs;rcases q with q|q
 ·exact h value slice pins s σ H x y v u Q I rx ry q hs
 ·exact h' value slice pins s σ H x y v u Q I rx ry q hs
theorem Jt{r:R2}(hr:IxR X r)(ha:PE X a ta)(hb:PE X b tb)(hs:Cj b):PE X (.Subscript a b pos) (tOp r ta tb):=by intro pins s σ H Q I h;exact i3 (Ko ha hb I h λv u s2 x y H2 I2 rx ry q=>hr a b pins s2 σ H2 x y v u Q I2 rx ry q (hs _ _))
def He(K:aj):R2:=λx y H Q=>∃p xs i v,x=.ref p/\y=.int i/\SqL K H p xs/\atI xs i=some v/\Q v H
def NO(K:aj):R2:=λx y H Q=>∃p xs i v,x=.ref p/\y=.int i/\SqT K H p xs/\atI xs i=some v/\Q v H
def NP:R2:=λx y H Q=>∃z i c,x=.str z/\y=.int i/\z.length<=az/\atI z.cps.toList i=some c/\Q (.str ⟨#[c]⟩) H
theorem Ck:IxR X (He X.K):=by
 intro value slice pins s σ H x y v u Q I rx ry h hs;obtain⟨p,xs,i,z,rfl,rfl,hq,he,q⟩:=h;cases rx;obtain⟨t,rfl⟩:=ry;obtain⟨its,r,pl,hz⟩:=I.list hq;obtain⟨j,h1,h2,h3,h4,h5⟩:=zL he;obtain⟨w,ew,rw'⟩:=r.get h2;have hl:=r.length;have hn:=vT;have fin:EP X pins σ Q w s:=⟨z,H,I,rw',q⟩;by_cases h0:0<=i
 ·have hj:i.toNat=j:=by rw[iV h0 h5]at h1;exact bT h1
  exact item_listR pl.isList h0 (by omega) (by rw[hj];simpa using ew) fin hs
 ·have hj:(i+(its.toArray.size:Int)).toNat=j:=by rw[iN (by omega) h4]at h1;rw[aQ,<- hl];exact bT h1
  exact jk (x:=w) pl.isList.typeIs jX.lookup
   (wpAny_getItem_list_neg (Q:=λr s'=>r=w/\EP X pins σ Q r s') pl.isList (by omega) (by rw[aQ]<;>omega) (by omega) (by rw[hj];simpa using ew) ⟨rfl,fin⟩) hs
theorem Kz:IxR X (NO X.K):=by
 intro value slice pins s σ H x y v u Q I rx ry h hs;obtain⟨p,xs,i,z,rfl,rfl,hq,he,q⟩:=h;cases rx;obtain⟨t,rfl⟩:=ry;obtain⟨its,r,pl,hz⟩:=I.tuple hq;obtain⟨j,h1,h2,h3,h4,h5⟩:=zL he;obtain⟨w,ew,rw'⟩:=r.get h2;have hl:=r.length;have hn:=vT;have fin:EP X pins σ Q w s:=⟨z,H,I,rw',q⟩;exact jk (x:=w) pl.typeIs slot_tuple_getitem.lookup
  (getItem_tuple (j:=j) (Q:=λr s'=>r=w/\EP X pins σ Q r s') pl (by omega) (by omega) (by rw[aQ,<- hl];exact h1) (by simpa using ew) ⟨rfl,fin⟩) hs
theorem KA:IxR X NP:=by
 intro value slice pins s σ H x y v u Q I rx ry h hs;obtain⟨z,i,c,rfl,rfl,hz,he,q⟩:=h;obtain⟨t,rfl⟩:=rx;obtain⟨t',rfl⟩:=ry;obtain⟨j,h1,h2,h3,h4,h5⟩:=zL he;have hl:z.cps.toList.length=z.length:=by simp[Str.length]
 rw[hl]at h1 h4 h5;have hn:=vT;exact tail_any (typeIs_str s z t) slot_str_getitem.lookup (getItem_str (c:=c) (by
  have e1:decide (i < -(2 ^ 63:Int))=false:=bh (by omega);have e2:decide (i >= 2 ^ 63)=false:=bh (by omega);rw[e1,e2,Bool.or_false]) (by rw[h1];simpa using h2) ⟨.str ⟨#[c]⟩,H,I.tok _,⟨_,rfl⟩,q⟩) hs
def rIx(K:aj):R2:=λx y H Q=>He K x y H Q\/NO K x y H Q\/NP x y H Q
theorem KB:IxR X (rIx X.K):=Ck.or (Kz.or KA)
theorem Bw(its:List aa)(n j:Nat)(u:aa):eU (·.setIfInBounds j u) { cls:=.type "list", data:=.seq its.toArray n }={ cls:=.type "list", data:=.seq (its.set j u).toArray n }:=by simp[eU]
theorem Inv.lst{pins:List (Addr×Obj)}{σ:St}{H:Hp}{s:ae}{p:Addr}{xs:List V}(I:Inv X pins σ H s)(h:H p=some (.lst xs)):
  ∃(its:List aa) (n:Nat),Vals xs its/\s.heap.get? p=some { cls:=.type "list", data:=.seq its.toArray n }/\xs.length<=az:=by
 obtain⟨z,its,n,r,e⟩:=I.hok p _ h;exact⟨its,n,r,e,z⟩
theorem Inv.lstUpd{H:Hp}{s:ae}{p:Addr}{xs ys:List V}{n n':Nat}{f:Obj->Obj}(I:Inv X pins σ H s)(h:H p=some (.lst xs))
  (ho:s.heap.get? p=some { cls:=.type "list", data:=.seq its.toArray n }) (hf:f { cls:=.type "list", data:=.seq its.toArray n }={ cls:=.type "list", data:=.seq its'.toArray n' }) (r:Vals ys its') (hz:ys.length<=az) (t:Nat):
  Inv X pins σ (upd H p (.lst ys)) { s with heap:=s.heap.update p f,toks:=t }:=by
 have e:(s.heap.update p f).get? p=some { cls:=.type "list", data:=.seq its'.toArray n' }:=by rw[jw f ho (by rw[hf]<;>rfl),hf]
 refine I.write (x:=p) (e:=p) (by rw[h];trivial) (.inl rfl) (λb u hb q=>(jm _ _ (dN hb)).trans q) ⟨_,e⟩ ?_;exact⟨hz,its',n',r,e⟩
def EJ:V->V->V->Hp->(Hp->Prop)->Prop:=λo i v H Q=>∃p xs k j,o=.ref p/\i=.int k/\H p=some (.lst xs)/\ixN xs.length k=some j/\Q (upd H p (.lst (xs.set j v)))
theorem set_list:NA X EJ:=by
 intro pins s σ H o i v ov iv u Q I ro ri rv h;obtain⟨p,xs,k,j,rfl,rfl,hp,hj,q⟩:=h;cases ro;obtain⟨t,rfl⟩:=ri;obtain⟨its,n,r,ho,hz⟩:=I.lst hp;obtain⟨h1,h2,h3,h4⟩:=Ci hj;have hl:=r.length;have hn:=vT;have I':Inv X pins σ (upd H p (.lst (xs.set j v))) { s with heap:=s.heap.update p (eU (·.setIfInBounds j u)) }:=
  I.lstUpd hp ho (Bw its n j u) (r.set rv j) (by rw[dc];exact hz) s.toks
 by_cases h0:0<=k
 ·have hk:k.toNat=j:=by rw[iV h0 h4]at h1;exact bT h1
  exact W.ki_setAt ho h0 (by omega) (by rw[aQ,<- hl];exact h4) (by rw[hk];exact⟨_,I',q⟩)
 ·have hk:(k+(its.toArray.size:Int)).toNat=j:=by rw[iN (by omega) h3]at h1;rw[aQ,<- hl];exact bT h1
  exact W.ki_setBack ho (by omega) (by rw[aQ,<- hl];exact h3) (by omega) (by rw[hk];exact⟨_,I',q⟩)
theorem zM(lo hi:Option Int)(n:Nat):(sliceBounds lo hi none n).1=((HT.sIx n 0 lo:Nat):Int)/\(sliceBounds lo hi none n).2.1=((HT.sIx n n hi:Nat):Int)/\(sliceBounds lo hi none n).2.2=1:=by
 refine⟨?_,?_,rfl⟩
 ·cases lo with
  |none=>simp[sliceBounds,HT.sIx]
  |some i=>
   simp only[sliceBounds,HT.sIx,gj,show (1:Int) > 0 by decide,if_true];by_cases h:i<0
   ·simp only[h,if_true]<;>omega
   ·simp only[h,if_false]<;>omega
 ·cases hi with
  |none=>simp[sliceBounds,HT.sIx]
  |some i=>
   simp only[sliceBounds,HT.sIx,gj,show (1:Int) > 0 by decide,if_true];by_cases h:i<0
   ·simp only[h,if_true]<;>omega
   ·simp only[h,if_false]<;>omega
theorem yJ(its:List aa)(lo hi:Option Int):slicePick its.toArray lo hi none=((its.drop (HT.sIx its.length 0 lo)).take (HT.sIx its.length its.length hi - HT.sIx its.length 0 lo)).toArray:=by obtain⟨h1,h2,h3⟩:=zM lo hi its.toArray.size;unfold slicePick;rw[h1,h2,h3];simp only[sliceRange_one,pick_run,aQ]<;>rfl
def Hf(K:aj):V->Option Int->Option Int->Hp->VK->Prop:=λx lo hi H Q=>∃a xs,x=.ref a/\SqL K H a xs/\∀p,H p=none->Q (.ref p) (upd H p (.lst (DL xs lo hi)))
theorem Hg:SlR X (Hf X.K):=by intro pins s σ H x v vl vu lo hi sl Q I rx hs pl pu h;obtain⟨a,xs,rfl,hx,q⟩:=h;cases rx;obtain⟨its,r,ht,hz⟩:=I.list hx;have hlen:=r.length;refine⟨"list", _,jX.lookup,ht.isList.typeIs,?_⟩;refine wpAny_getItem_list_slice ht.isList hs pl pu .none (by simp) ?_ (by rw[aQ]<;>omega);rw[yJ,<- hlen];refine⟨.ref s.heap.objs.size,_,I.laid (t':=s.toks) (o:=.lst (DL xs lo hi)) (λb ob q=>aJ _ q) (aC _) ?_,rfl,q _ (I.hok.fresh (aC _))⟩;exact⟨bH (Aw xs lo hi) hz,_,0,(r.drop (HT.sIx xs.length 0 lo)).take (HT.sIx xs.length xs.length hi - HT.sIx xs.length 0 lo),bx _ rfl⟩
def uG:V->Bool
 |.non=>true
 |.bl _=>true
 |.int _=>true
 |.str _=>true
 |_=>false
def eqV:V->V->Bool
 |.non,.non=>true
 |.bl a,.bl b=>a==b
 |.bl a,.int b=>(if a then 1 else 0)==b
 |.int a,.bl b=>a==(if b then 1 else 0)
 |.int a,.int b=>a==b
 |.str a,.str b=>a==b
 |_,_=>false
theorem xG{A:ay}{s:ae}{x:V}{v:aa}(ry:RelV y u)(rx:RelV x v)(fy:uG y=true)(fx:uG x=true):gE A s u v (eqV y x):=by
 cases y with
 |non=>
  cases ry;cases x with
  |non=>cases rx;exact iy _
  |bl b=>cases rx;exact mH b
  |int b=>obtain⟨t,rfl⟩:=rx;exact mW b t
  |str b=>obtain⟨t,rfl⟩:=rx;exact mX b t
  |_=>exact ak (show false=true from fx) bf
 |bl a=>
  cases ry;cases x with
  |non=>cases rx;exact mI a
  |bl b=>cases rx;exact mL a b
  |int b=>obtain⟨t,rfl⟩:=rx;exact mY a b t
  |str b=>obtain⟨t,rfl⟩:=rx;exact mZ a b t
  |_=>exact ak (show false=true from fx) bf
 |int a=>
  obtain⟨t',rfl⟩:=ry;cases x with
  |non=>cases rx;exact m4 a t'
  |bl b=>cases rx;exact m5 a t' b
  |int b=>obtain⟨t,rfl⟩:=rx;exact nu a t' b t
  |str b=>obtain⟨t,rfl⟩:=rx;exact jL a t' b t
  |_=>exact ak (show false=true from fx) bf
 |str a=>
  obtain⟨t',rfl⟩:=ry;cases x with
  |non=>cases rx;exact m6 a t'
  |bl b=>cases rx;exact m7 a t' b
  |int b=>obtain⟨t,rfl⟩:=rx;exact jM a t' b t
  |str b=>obtain⟨t,rfl⟩:=rx;exact nv a t' b t
  |_=>exact ak (show false=true from fx) bf
 |_=>exact ak (show false=true from fy) bf
def eqU(x:V)(u:aa):Bool:=match u with
 |.none=>eqV .non x
 |.bool b=>eqV (.bl b) x
 |.int i _=>eqV (.int i) x
 |.str z _=>eqV (.str z) x
 |_=>false
theorem EK{x:V}(r:RelV y u)(f:uG y=true):eqU x u=eqV y x:=by
 cases y with
 |non=>cases r;rfl
 |bl b=>cases r;rfl
 |int i=>obtain⟨t,rfl⟩:=r;rfl
 |str z=>obtain⟨t,rfl⟩:=r;rfl
 |_=>exact ak (show false=true from f) bf
theorem vg{x:V}:∀{xs:List V} {us:List aa},Vals xs us->xs.all uG=true->us.any (eqU x)=xs.any λy=>eqV y x
 |_,_,.nil,_=>rfl
 |y::xs,u::us,.cons r t,f=>by rw[cy,aA]at f;rw[d7,d7,EK r f.1,vg t f.2]
theorem tX{A:ay}{s:ae}{x:V}{v:aa}(rx:RelV x v)(fx:uG x=true):∀{xs:List V} {us:List aa},Vals xs us->xs.all uG=true->∀u∈us,gE A s u v (eqU x u)
 |_,_,.nil,_=>λu hu=>by cases hu
 |y::xs,u::us,.cons r t,f=>λu' hu=>by
  rw[cy,aA]at f;rcases aW.mp hu with rfl|hu
  ·rw[EK r f.1];exact xG r rx f.1 fx
  ·exact tX rx fx t f.2 u' hu
def inV(x:V)(xs:List V):Bool:=xs.any λy=>eqV y x
def rIn(K:aj)(neg:Bool):R2:=λx y H Q=>∃p xs,y=.ref p/\(SqL K H p xs\/SqT K H p xs)/\uG x=true/\xs.all uG=true/\Q (.bl (if neg then !inV x xs else inV x xs)) H
theorem DM:OpR X (aU .In) (rIn X.K false):=by
 intro pins s σ H x y v u Q I rx ry h;obtain⟨p,xs,rfl,hq,fx,fs,q⟩:=h;cases ry;rcases hq with hq|hq
 ·obtain⟨its,r,pl,hz⟩:=I.list hq;refine SeqAt.in_listAt (eqU x) pl.isList (λw hw=>tX rx fx r fs w (by simpa using hw)) ⟨.bl _,H,I,rfl,?_⟩;rw[show its.toArray.any (eqU x)=its.any (eqU x) by simp,vg r fs];exact q
 ·obtain⟨its,r,pl,hz⟩:=I.tuple hq;refine SeqAt.in_tupleAt (eqU x) pl (λw hw=>tX rx fx r fs w (by simpa using hw)) ⟨.bl _,H,I,rfl,?_⟩;rw[show its.toArray.any (eqU x)=its.any (eqU x) by simp,vg r fs];exact q
theorem zN:OpR X (aU .NotIn) (rIn X.K true):=by
 intro pins s σ H x y v u Q I rx ry h;obtain⟨p,xs,rfl,hq,fx,fs,q⟩:=h;cases ry;rcases hq with hq|hq
 ·obtain⟨its,r,pl,hz⟩:=I.list hq;refine SeqAt.notIn_listAt (eqU x) pl.isList (λw hw=>tX rx fx r fs w (by simpa using hw)) ⟨.bl _,H,I,rfl,?_⟩;rw[show its.toArray.any (eqU x)=its.any (eqU x) by simp,vg r fs];exact q
 ·obtain⟨its,r,pl,hz⟩:=I.tuple hq;refine SeqAt.notIn_tupleAt (eqU x) pl (λw hw=>tX rx fx r fs w (by simpa using hw)) ⟨.bl _,H,I,rfl,?_⟩;rw[show its.toArray.any (eqU x)=its.any (eqU x) by simp,vg r fs];exact q
theorem zO:pR X (.builtin "len") (λxs H Q=>∃p ys,xs=[.ref p]/\(SqL X.K H p ys\/SqT X.K H p ys)/\Q (.int ys.length) H):=by
 intro pins s σ H xs us Q I r h;obtain⟨p,ys,rfl,hq,q⟩:=h;obtain⟨u,rfl,rx⟩:=vals1 r;cases rx;have hn:=vT;rcases hq with hq|hq
 ·obtain⟨its,r',pl,hz⟩:=I.list hq;have hlen:=r'.length;exact Calls.call_len_list pl.isList (by simp only[aQ]<;>omega) ⟨.int ys.length,H,I.tok _,⟨s.toks+1,by rw[aQ,hlen]⟩,q⟩
 ·obtain⟨its,r',pl,hz⟩:=I.tuple hq;have hlen:=r'.length;exact len_tuple pl (by simp only[aQ]<;>omega) ⟨.int ys.length,H,I.tok _,⟨s.toks+1,by rw[aQ,hlen]⟩,q⟩
theorem zP:pR X (.builtin "len") (λxs H Q=>∃z,xs=[.str z]/\z.length<=az/\Q (.int z.length) H):=by intro pins s σ H xs us Q I r h;obtain⟨z,rfl,hz,q⟩:=h;obtain⟨u,rfl,t,rfl⟩:=vals1 r;have hn:=vT;exact len_str (by omega) ⟨.int z.length,H,I.tok _,⟨_,rfl⟩,q⟩
theorem zQ:pR X (.type "list") (λxs H Q=>∃p ys,xs=[.ref p]/\(SqL X.K H p ys\/SqT X.K H p ys)/\∀l,H l=none->Q (.ref l) (upd H l (.lst ys))):=by
 intro pins s σ H xs us Q I r h;obtain⟨p,ys,rfl,hq,q⟩:=h;obtain⟨u,rfl,rx⟩:=vals1 r;cases rx;have fin:∀(its:List aa),Vals ys its->ys.length<=az->∀(h':Heap) (c':Nat),(∀b o',s.heap.get? b=some o'->h'.get? b=some o')->
   h'.get? s.heap.objs.size=some { cls:=.type "list", dict:=none,data:=.seq its.toArray c',slots:=#[] }->EP X pins σ Q (.ref s.heap.objs.size) { s with heap:=h' }:=λits r' hz h' c' kp e=>
  ⟨.ref s.heap.objs.size,_,I.laid (t':=s.toks) kp (aC _) (show o8 X.prog X.w _ h' _ (.lst ys) from⟨hz,its,c',r',e⟩),rfl,q _ (I.hok.fresh (aC _))⟩
 rcases hq with hq|hq
 ·obtain⟨its,r',pl,hz⟩:=I.list hq;have hlen:=r'.length;obtain⟨o,ho,hc,n,hd⟩:=pl.isList;exact kH p (.inl rfl) ho hc hd (λh' c' kp e=>fin its r' hz h' c' kp e) (by simp only[aQ]<;>omega)
 ·obtain⟨its,r',pl,hz⟩:=I.tuple hq;have hlen:=r'.length;obtain⟨o,ho,hc,n,hd⟩:=pl;exact kH p (.inr rfl) ho hc hd (λh' c' kp e=>fin its r' hz h' c' kp e) (by simp only[aQ]<;>omega)
def tyV(K:aj)(T:String)(x:V)(H:Hp):Prop:=match x with
 |.str _=>T="str"
 |.int _=>T="int"
 |.ref p=>(T="list" /\ ∃xs,SqL K H p xs)\/(T="tuple" /\ ∃o,K.lookup p=some o/\o.cls=.type "tuple" /\ o.dict=none)\/
   (T="dict" /\ ((∃kvs,H p=some (.dK kvs))\/∃kvs,H p=some (.dT kvs)))\/(T="set" /\ ∃S n,H p=some (.set S n))
 |_=>False
theorem KC{H:Hp}{s:ae}{x:V}{v:aa}(I:Inv X pins σ H s)(r:RelV x v)(ty:tyV X.K T x H):
  s.TypeIs v T/\∀a,v=.ref a->∃ob,s.heap.get? a=some ob/\ob.dict=none:=by
 cases x with
 |str z=>obtain⟨t,rfl⟩:=r;cases (show T="str" from ty);exact⟨typeIs_str s z t,λ_ e=>nomatch e⟩
 |int i=>obtain⟨t,rfl⟩:=r;cases (show T="int" from ty);exact⟨typeIs_int s i t,λ_ e=>nomatch e⟩
 |ref p=>
  cases r;rcases ty with ⟨rfl,xs,hq⟩|⟨rfl,o,hk,hc,hd⟩|⟨rfl,hk⟩|⟨rfl,S,n,hk⟩
  ·obtain⟨its,_,pl,_⟩:=I.list hq;refine⟨pl.isList.typeIs,λa e=>?_⟩;cases e;obtain⟨o,n,e,c,hd,_⟩:=pl;exact⟨o,e,hd⟩
  ·refine⟨⟨o,I.kIn p o hk,hc⟩,λa e=>?_⟩;cases e;exact⟨o,I.kIn _ o hk,hd⟩
  ·have z:∃o,s.heap.get? p=some o/\o.ExactDict:=by
    rcases hk with ⟨kvs,hk⟩|⟨kvs,hk⟩
    ·obtain⟨_,_,_,_,o,_,_,e,ex,_⟩:=I.hok p _ hk;exact⟨o,e,ex⟩
    ·obtain⟨_,_,_,_,o,_,_,e,ex,_⟩:=I.hok p _ hk;exact⟨o,e,ex⟩
   obtain⟨o,e,ex⟩:=z;refine⟨⟨o,e,ex.1⟩,λa e2=>?_⟩;cases e2;exact⟨o,e,ex.2.1⟩
  ·obtain⟨o,_,_,_,e,ex,_⟩:=I.hok p _ hk;refine⟨⟨o,e,ex.1⟩,λa e2=>?_⟩;cases e2;exact⟨o,e,ex.2.1⟩
 |_=>exact bQ ty
def tBM(K:aj)(T:String)(r:V->List V->Hp->VK->Prop)(to:TE)(t:TA):TE:=λσ H Q=>to σ H λx H1=>tyV K T x H1/\t σ H1 λxs H2=>r x xs H2 Q
variable{o e:Expr}{es:List Expr}{to:TE}{t:TA}{name:Str}{apos cpos:Pos}{T id:String}{r:V->List V->Hp->VK->Prop}
theorem NQ(pa:i4 T)(slot:Slot T name id)(hty:typeOf (.builtin id)=pure (.type "method_descriptor"))(hm:MtR X id r)(ho:PE X o to)(ha:PA X (e::es) t)
  (hbase:d6 o name X.env (eval o X.env)=eval o X.env:=by rfl)
  (hfew:((aX cpos (ar (e::es) X.env)).all (λx=>!x.1)&&(backToKw cpos (dh [] X.env)).all (λx=>x.1.isSome)
   && decide ((e::es).length+([]:List fj).length+(if ([]:List fj).isEmpty then 0 else 1)<30))=true:=by rfl)
  (hline:(apos.endLine==cpos.line)=true:=by rfl) (hs:ar (e::es) X.env=(false,eval e X.env)::ar es X.env:=by rfl) (hplain:(aX cpos (ar es X.env)).any (·.1)=false:=by rfl):
  PE X (.Call (.Attribute o name apos) (e::es) [] cpos) (tBM X.K T r to t):=by
 intro pins s σ H Q I h;refine wpAny_Call_method_late hbase hfew hline rfl (thn (ho pins s σ H _ I h) λv s1 zz=>?_);obtain⟨x,H1,I1,r1,ty,q1⟩:=zz;obtain⟨h1,h2⟩:=KC I1 r1 ty;refine⟨T,id,pa,slot,hty,h1,h2,?_⟩;have hA:=ha cpos pins s1 σ H1 _ I1 q1;rw[hs]at hA ⊢;refine jn (by show (false||(aX cpos (ar es X.env)).any (·.1))=false;rw[hplain]<;>rfl) (hG ?_)
 exact thn hA λus s2 ⟨vs,H2,I2,r2,q2⟩=>hm pins s2 σ H2 x vs v us Q I2 r1 r2 q2
end
def MtM(X:Cx)(id:String)(r:V->List V->Hp->VK->Prop):Prop:=
 ∀(pins:List (Addr×Obj)) (s:ae) (σ:St) (H:Hp) (x:V) (xs:List V) (v:aa) (us:List aa) (Q:VK),Inv X pins σ H s->RelV x v->Vals xs us->r x xs H Q->
  af (model X.prog X.w) X.A (call (.builtin id) (v::us)) (EP X pins σ Q) X.xe s
theorem Vals.one:∀{x:V} {us:List aa},Vals [x] us->∃u,us=[u]/\RelV x u
 |_,_,.cons r .nil=>⟨_,rfl,r⟩
variable{t':Nat}
section
variable{X:Cx}{pins:List (Addr×Obj)}{σ:St}{H:Hp}{s:ae}{l b:Addr}{xs ys zs:List V}
theorem Inv.lset{n:Nat}{f:Array aa->Array aa}(I:Inv X pins σ H s)(hH:H l=some (.lst xs))
  (e:s.heap.get? l=some { cls:=.type "list", data:=.seq its.toArray n }) (hf:f its.toArray=its'.toArray) (hv:Vals ys its') (hz:ys.length<=az):
  Inv X pins σ (upd H l (.lst ys)) { s with heap:=s.heap.update l (eU f),toks:=t' }:=by
 have q:=PySem.IsL.update e f;rw[hf]at q;refine I.write (x:=l) (e:=l) (by rw[hH];exact trivial) (.inl rfl) (λb' u hb hu=>(jm s.heap (eU f) (dN hb)).trans hu) ⟨_,q⟩ ?_;exact⟨hz,its',_,hv,q⟩
theorem Inv.lnew(I:Inv X pins σ H s)(hv:Vals ys its)(hz:ys.length<=az):
  Inv X pins σ (upd H s.heap.objs.size (.lst ys)) { s with heap:=s.heap.push { cls:=.type "list", data:=.seq its.toArray },toks:=t' }:=
 I.laid (λ_ _ q=>aJ _ q) (aC _) ⟨hz,its,0,hv,bx _ rfl⟩
theorem Inv.fresh(I:Inv X pins σ H s):H s.heap.objs.size=none:=I.hok.fresh (aC _)
theorem Inv.lstM(I:Inv X pins σ H s)(hH:H l=some (.lst xs)):xs.length<=az/\∃(its:List aa) (n:Nat),Vals xs its/\xs.length=its.length/\s.heap.get? l=some { cls:=.type "list", data:=.seq its.toArray n }:=by obtain⟨z,its,n,r,e⟩:=I.hok l _ hH;exact⟨z,its,n,r,r.length,e⟩
theorem Ax{n:Nat}(h:n<=az):fq n=false:=by unfold fq;exact bh (by omega)
end
section
variable{X:Cx}
def zR:V->List V->Hp->VK->Prop:=λx vs H Q=>∃l xs y,x=.ref l/\vs=[y]/\H l=some (.lst xs)/\xs.length<az/\Q .non (upd H l (.lst (xs++[y])))
theorem vV:MtM X "list.append" zR:=by intro pins s σ H x vs v us Q I rx rv h;obtain⟨l,xs,y,rfl,rfl,hH,hz,q⟩:=h;cases rx;obtain⟨u,rfl,ru⟩:=rv.one;obtain⟨z,its,n,r,hl,e⟩:=I.lstM hH;refine i5 ib ⟨_,e,rfl⟩ F.entry_list_append (F.args_list_append_2 _ _) (PySem.list_append l its.toArray n u (by rw[aQ];omega)) ⟨e,?_⟩;refine⟨.non,_,I.lset (its':=its++[u]) hH e (by simp) (r.append (.cons ru .nil)) ?_,rfl,q⟩;rw[aB,bY];omega
def Cm:V->List V->Hp->VK->Prop:=λx vs H Q=>∃l b xs zs,x=.ref l/\vs=[.ref b]/\H l=some (.lst xs)/\H b=some (.lst zs)/\xs.length+zs.length<=az/\Q .non (upd H l (.lst (xs++zs)))
theorem DN:MtM X "list.extend" Cm:=by
 intro pins s σ H x vs v us Q I rx rv h;obtain⟨l,b,xs,zs,rfl,rfl,hH,hB,hz,q⟩:=h;cases rx;obtain⟨u,rfl,ru⟩:=rv.one;cases ru;obtain⟨z,its,n,r,hl,e⟩:=I.lstM hH;obtain⟨z2,its2,n2,r2,hl2,e2⟩:=I.lstM hB;have hsz:its.toArray.size+its2.toArray.size<=az:=by rw[aQ,aQ];omega
 have hlong:¬(!its.toArray.isEmpty&&fq (its.toArray.size+its2.toArray.size))=true:=by rw[Ax hsz,dF];exact bf
 refine i5 gb ⟨_,e,rfl⟩ jF (jA _ _)
  (AutoSeq1.list_extend_list_list_0 l its.toArray n b its2.toArray n2 hlong (by rw[aQ];omega) (by omega)) ⟨e,e2,?_⟩
 refine⟨.non,_,I.lset (its':=its++its2) hH e (by simp) (r.append r2) ?_,rfl,q⟩;rw[aB];omega
def O8:R2:=λx y H Q=>∃l b xs zs,x=.ref l/\y=.ref b/\H l=some (.lst xs)/\H b=some (.lst zs)/\xs.length+zs.length<=az/\∀p,H p=none->Q (.ref p) (upd H p (.lst (xs++zs)))
theorem KD:OpR X (cF .Add) O8:=by
 intro pins s σ H x y v u Q I rx ry h;obtain⟨l,b,xs,zs,rfl,rfl,hH,hB,hz,q⟩:=h;cases rx;cases ry;obtain⟨z,its,n,r,hl,e⟩:=I.lstM hH;obtain⟨z2,its2,n2,r2,hl2,e2⟩:=I.lstM hB;refine PySem.P.add_list e e2 ?_ (by rw[aQ,aQ];omega);have ea:its.toArray++its2.toArray=(its++its2).toArray:=by simp
 rw[ea];exact⟨.ref _,_,I.lnew (t':=s.toks) (r.append r2) (by rw[aB];omega),rfl,q _ I.fresh⟩
end
section
variable{prog:aq}{w:ao}{A:ay}{E:aa->ae->Prop}{s:ae}
set_option maxRecDepth 100000 in
end
section
variable{κ:Type}[DecidableEq κ]
def q9(kvs:List (κ×V))(k:κ):Option V:=(kvs.find? λkv=>decide (kv.1=k)).map (·.2)
def putK(kvs:List (κ×V))(k:κ)(v:V):List (κ×V):=
 if (kvs.any λkv=>decide (kv.1=k))=true then kvs.map (λkv=>if kv.1=k then (kv.1,v)else kv)else kvs++[(k,v)]
theorem vh{p:κ×V}{r:List (κ×V)}{k:κ}(e:p.1=k):q9 (p::r) k=some p.2:=by simp[q9,dD,e]
theorem vm{p:κ×V}{r:List (κ×V)}{k:κ}(e:¬p.1=k):q9 (p::r) k=q9 r k:=by simp[q9,dD,e]
theorem xH(k:κ):∀kvs:List (κ×V),(kvs.any λkv=>decide (kv.1=k))=(q9 kvs k).isSome
 |[]=>rfl
 |p::r=>by
  rw[d7];by_cases e:p.1=k
  ·simp only[vh e,bc e,Bool.true_or,Option.isSome_some]
  ·rw[vm e,bh e,Bool.false_or];exact xH k r
theorem tY(kvs:List (κ×V))(k:κ)(v:V):(putK kvs k v).length<=kvs.length+1:=by
 unfold putK;split
 ·rw[ai];omega
 ·rw[aB,aE,dE];omega
theorem EL{kvs:List (κ×V)}{k:κ}(v:V)(h:q9 kvs k=none):putK kvs k v=kvs++[(k,v)]:=by unfold putK;rw[xH,h];exact ah (by decide)
theorem uC.isSome_eq{o:Option V}{u:Option aa}(r:uC o u):o.isSome=u.isSome:=by
 cases o with
 |none=>cases u with
  |none=>rfl
  |some _=>exact(show False from r).elim
 |some _=>cases u with
  |none=>exact(show False from r).elim
  |some _=>rfl
theorem KV.val{kvs:List (κ×V)}{vs:List (κ×aa)}(r:KV kvs vs)(k:κ):uC (q9 kvs k) (valueAt vs k):=by
 unfold KV at r
 induction r with
 |nil=>exact True.intro
 |@cons p q ps qs h t ih=>
  obtain⟨h1,h2⟩:=h;by_cases e:p.1=k
  ·have e':q.1=k:=h1.symm.trans e;have b:valueAt (q::qs) k=some q.2:=by simp[valueAt,dD,e']
   rw[vh e,b];exact h2
  ·have e':¬q.1=k:=λz=>e (h1.trans z);have b:valueAt (q::qs) k=valueAt qs k:=by simp[valueAt,dD,e']
   rw[vm e,b];exact ih
theorem KV.any{kvs:List (κ×V)}{vs:List (κ×aa)}(r:KV kvs vs)(k:κ):(kvs.any λkv=>decide (kv.1=k))=vs.any λkv=>decide (kv.1=k):=by
 unfold KV at r
 induction r with
 |nil=>rfl
 |cons h t ih=>rw[d7,d7,ih,h.1]
theorem KV.repl{kvs:List (κ×V)}{vs:List (κ×aa)}(r:KV kvs vs)(k:κ)(ry:RelV y u):
  KV (kvs.map λkv=>if kv.1=k then (kv.1,y)else kv) (vs.map λkv=>if kv.1=k then (kv.1,u)else kv):=by
 unfold KV at r ⊢
 induction r with
 |nil=>exact .nil
 |@cons p q ps qs h t ih=>
  rw[aN,aN];refine .cons ?_ ih;obtain⟨h1,h2⟩:=h;by_cases e:p.1=k
  ·rw[ag e,ag (h1.symm.trans e)];exact⟨h1,ry⟩
  ·rw[ah e,ah (λz=>e (h1.trans z))];exact⟨h1,h2⟩
theorem KV.put{kvs:List (κ×V)}{vs:List (κ×aa)}(r:KV kvs vs)(k:κ)(ry:RelV y u):KV (putK kvs k y) (stored vs k u):=by
 unfold putK stored;rw[r.any k];by_cases e:(vs.any λkv=>decide (kv.1=k))=true
 ·rw[ag e,ag e];exact r.repl k ry
 ·rw[ah e,ah e];exact lp r ⟨rfl,ry⟩
theorem KV.length{kvs:List (κ×V)}{vs:List (κ×aa)}(r:KV kvs vs):kvs.length=vs.length:=iE r
end
theorem yX{P:aq}{w:ao}{k:Key}(r:RelV (kV k) u):(oa P w).is k u=true:=by
 cases k with
 |inl i=>obtain⟨t,e⟩:=(show ∃t,u=Value.int i t from r);subst e;exact Al P w i t
 |inr x=>obtain⟨t,e⟩:=(show ∃t,u=Value.str x t from r);subst e;exact Am P w x t
theorem yY{P:aq}{w:ao}:∀{ks:List Key} {us:List aa},Vals (ks.map kV) us->ItemsAre (oa P w) ks us
 |[],_,r=>by rw[eR]at r;cases r;exact .nil
 |k::ks,_,r=>by
  rw[aN]at r;cases r with
  |cons h t=>exact .cons (yX h) (yY t)
abbrev KT(H:Hp):List (List Key×V)->List (List Key×Addr×aa)->Prop:=eX λp q=>p.1=q.1/\H q.2.1=some (.tup (p.1.map kV))/\RelV p.2 q.2.2
variable{kvs:List (List Key×V)}{xs:List (List Key×Addr×aa)}
theorem KT.val{H:Hp}(r:KT H kvs xs)(k:List Key):uC (q9 kvs k) ((atKey xs k).map (·.2)):=by
 induction r with
 |nil=>exact True.intro
 |@cons p q ps qs h t ih=>
  obtain⟨h1,_,h2⟩:=h;by_cases e:p.1=k
  ·have e':q.1=k:=h1.symm.trans e;have b:atKey (q::qs) k=some q.2:=by simp[atKey,dD,e']
   rw[vh e,b];exact h2
  ·have e':¬q.1=k:=λz=>e (h1.trans z);have b:atKey (q::qs) k=atKey qs k:=by simp[atKey,dD,e']
   rw[vm e,b];exact ih
theorem KT.repl{H:Hp}(r:KT H kvs xs)(k:List Key)(ry:RelV y u):
  KT H (kvs.map λkv=>if kv.1=k then (kv.1,y)else kv) (xs.map (putAt k u)):=by
 induction r with
 |nil=>exact .nil
 |@cons p q ps qs h t ih=>
  rw[aN,aN];refine .cons ?_ ih;obtain⟨h1,h2,h3⟩:=h;unfold putAt;by_cases e:p.1=k
  ·rw[ag e,ag (h1.symm.trans e)];exact⟨h1,h2,ry⟩
  ·rw[ah e,ah (λz=>e (h1.trans z))];exact⟨h1,h2,h3⟩
theorem KT.put{H:Hp}(r:KT H kvs xs)(k:List Key){b:Addr}(hb:H b=some (.tup (k.map kV)))(ry:RelV y u):
  KT H (putK kvs k y) (storedH xs k b u):=by
 have e:(kvs.any λkv=>decide (kv.1=k))=(atKey xs k).isSome:=by rw[xH,(r.val k).isSome_eq,Option.isSome_map]
 unfold putK storedH;rw[e];by_cases q:(atKey xs k).isSome=true
 ·rw[ag q,ag q];exact r.repl k ry
 ·rw[ah q,ah q];exact lp r ⟨rfl,hb,ry⟩
variable{H':Hp}
theorem KT.keeps{H:Hp}(r:KT H kvs xs)(ht:∀b ys,H b=some (.tup ys)->H' b=some (.tup ys)):KT H' kvs xs:=
 Paired.mapP r λ_ _ z=>⟨z.1,ht _ _ z.2.1,z.2.2⟩
section
variable{P:aq}{w:ao}{H:Hp}{h:Heap}{a:Addr}
theorem Ju{u:HO}(ok:HOk P w H h)(e:Rd H a u):o8 P w H h a u:=e.ok ok
theorem Ay{kvs:List (Key×V)}(ok:HOk P w H h)(e:Rd H a (.dK kvs)):kvs.length<=az/\(a==cE)=false/\∃vs,KV kvs vs/\h.DictOf (oa P w) a vs:=
 show o8 P w H h a (.dK kvs) from Ju ok e
theorem Jv{kvs:List (Key×V)}(ok:HOk P w H h)(e:H a=some (.dK kvs)):kvs.length<=az/\(a==cE)=false/\∃vs,KV kvs vs/\h.DictOf (oa P w) a vs:=Ay ok (.inl e)
theorem By{ks:List Key}(ok:HOk P w H h)(e:H a=some (.tup (ks.map kV))):(tupleKind (oa P w)).is h ks a:=by obtain⟨_,its,r,o,h1,h2,n,h3⟩:=(show o8 P w H h a (.tup (ks.map kV)) from ok a _ e);exact⟨o,its.toArray,n,h1,h2,h3,by simpa using yY r⟩
theorem Cn(ok:HOk P w H h)(e:Rd H a (.dT kvs)):kvs.length<=az/\(a==cE)=false/\
  ∃xs,KT H kvs xs/\h.DictOfH (tupleKind (oa P w)) a xs:=by
 obtain⟨z,y,xs,r,o,es,ep,h1,h2,h3,h4,h5⟩:=(show o8 P w H h a (.dT kvs) from Ju ok e);refine⟨z,y,xs,r,o,es,ep,h1,h2,h3,h4,λx hx=>?_,h5⟩;have all:∀{l:List (List Key×V)} {m:List (List Key×Addr×aa)},KT H l m->∀x∈m,(tupleKind (oa P w)).is h x.1 x.2.1:=by
  intro l m q
  induction q with
  |nil=>intro x hx;exact nomatch hx
  |@cons p q ps qs hq t ih=>
   intro x hx;rcases aW.mp hx with e|hx
   ·subst e;exact By ok (by rw[<-hq.1];exact hq.2.1)
   ·exact ih x hx
 exact all r x hx
theorem NR(ok:HOk P w H h)(e:H a=some (.dT kvs)):kvs.length<=az/\(a==cE)=false/\
  ∃xs,KT H kvs xs/\h.DictOfH (tupleKind (oa P w)) a xs:=Cn ok (.inl e)
end
def DGet(H:Hp)(a:Addr)(y:V)(r:Option V):Prop:=
 (∃kvs k,Rd H a (.dK kvs)/\y=kV k/\r=q9 kvs k)\/∃kvs k b,Rd H a (.dT kvs)/\y=.ref b/\H b=some (.tup (k.map kV))/\r=q9 kvs k
def EM(H:Hp)(a:Addr)(y v:V)(H':Hp):Prop:=
 (∃kvs k,H a=some (.dK kvs)/\y=kV k/\kvs.length<az/\H'=upd H a (.dK (putK kvs k v)))\/
 ∃kvs k b,H a=some (.dT kvs)/\y=.ref b/\H b=some (.tup (k.map kV))/\kvs.length<az/\H'=upd H a (.dT (putK kvs k v))
theorem EM.k{H:Hp}{a:Addr}{kvs:List (Key×V)}{k:Key}{v:V}(e:H a=some (.dK kvs))(hl:kvs.length<az):EM H a (kV k) v (upd H a (.dK (putK kvs k v))):=.inl ⟨kvs,k,e,rfl,hl,rfl⟩
variable{Q:aa->ae->Prop}{h':Heap}
section
variable{X:Cx}{pins:List (Addr×Obj)}{σ:St}{H:Hp}{s:ae}{a:Addr}{y v:V}{u r:aa}{o:Option V}{A:ay}{E:aa->ae->Prop}
theorem Inv.big(I:Inv X pins σ H s):cE<s.heap.objs.size:=by have h:aG<s.heap.objs.size:=(I.mod.glob.keeps I.bk).lt;exact gw (by decide) h
theorem DO(hu:A.units+1<cLine)(I:Inv X pins σ H s)(g:DGet H a y (some v))(ry:RelV y u)(h:∀w' s',Inv X pins σ H s'->RelV v w'->Q w' s'):
  af (model X.prog X.w) A (getItem (.ref a) u) Q E s:=by
 rcases g with ⟨kvs,k,e,ey,l⟩|⟨kvs,k,b,e,ey,eb,l⟩
 ·subst ey;obtain⟨z,hd,vs,rel,dd⟩:=Ay I.hok e;obtain⟨w',hw,rw'⟩:=uC.some_of (v:=v) (o:=valueAt vs k) (by rw[l];exact rel.val k);exact wpAny_getItem_of (yX ry) dd.mapOf hw (h w' _ (I.tok _) rw')
 ·subst ey;cases (show u=Value.ref b from ry);obtain⟨z,hd,xs,rel,dd⟩:=Cn I.hok e;obtain⟨w',hw,rw'⟩:=uC.some_of (v:=v) (o:=(atKey xs k).map (·.2)) (by rw[l];exact rel.val k)
  obtain⟨p,hp,hp2⟩:=jo.mp hw;refine wpAny_getItem_heap (jO hu) (By I.hok eb) dd hp ?_;rw[hp2];exact h w' _ (I.tok _) rw'
theorem zS{ob:HO}(I:Inv X pins σ H s)(mu:Mut (H a))(hs:eO a s.heap h')(he:∃q,h'.get? a=some q)(new:o8 X.prog X.w (upd H a ob) h' a ob):
  Inv X pins σ (upd H a ob) { s with heap:=h',toks:=t' }:=
 I.write (x:=a) (e:=a) mu (.inl rfl) (λb q hb z=>(hs.2 b hb).trans z) he new
theorem EN{P:aq}{w:ao}{kvs:List (Key×V)}{vs:List (Key×aa)}(z:kvs.length<=az)(hd:(a==cE)=false)(rel:KV kvs vs)(dd:h'.DictOf (oa P w) a vs):
  o8 P w H' h' a (.dK kvs):=⟨z,hd,vs,rel,dd⟩
theorem DP{Q:Unit->ae->Prop}(hu:A.units+1<cLine)(I:Inv X pins σ H s)(g:EM H a y v H')(ry:RelV y u)(rv:RelV v r)(h:∀s',Inv X pins σ H' s'->Q () s'):
  af (model X.prog X.w) A (setItem (.ref a) u r) Q E s:=by
 rcases g with ⟨kvs,k,e,ey,l,eH⟩|⟨kvs,k,b,e,ey,eb,l,eH⟩
 ·subst ey eH;obtain⟨z,hd,vs,rel,dd⟩:=Jv I.hok e;have hz:vs.length<=az:=by rw[<-rel.length];exact z
  have hl:(putK kvs k v).length<=az:=by have:=tY kvs k v;omega
  refine wpAny_setItem_pairs (hsz:=hz) (yX ry) dd λh' dd' hs=>h _ ?_;have he:∃q,h'.get? a=some q:=let ⟨q,_,_,hq,_⟩:=dd';⟨q,hq⟩;exact zS I (by rw[e];exact True.intro) hs he (EN hl hd (rel.put k rv) dd')
 ·subst ey eH;cases (show u=Value.ref b from ry);obtain⟨z,hd,xs,rel,dd⟩:=NR I.hok e;have hz:xs.length<=az:=by rw[<-iE rel];exact z
  have hl:(putK kvs k v).length<=az:=by have:=tY kvs k v;omega
  refine wpAny_setItem_heap (hsz:=hz) (jO hu) (By I.hok eb) dd λh' dd' hs=>h _ ?_;obtain⟨q,es,ep,hq,h2,h3,h4,_,h5⟩:=dd';refine zS I (by rw[e];exact True.intro) hs ⟨q,hq⟩ ⟨hl,hd,_,(rel.put k eb rv).keeps λc ys ec=>?_,q,es,ep,hq,h2,h3,h4,h5⟩;rw[nT (Nq ec e (λz=>nomatch z))];exact ec
end
section
variable{X:Cx}{pins:List (Addr×Obj)}{σ:St}{H:Hp}{s:ae}{a:Addr}{kvs:List (Key×V)}{k:Key}{u:aa}{A:ay}{E:aa->ae->Prop}
theorem NS(I:Inv X pins σ H s)(e:Rd H a (.dK kvs))(h:∀t s',Inv X pins σ H s'->Q (.int kvs.length t) s'):af (model X.prog X.w) A (call (.builtin "len") [.ref a]) Q E s:=by obtain⟨z,hd,vs,rel,dd⟩:=Ay I.hok e;refine call_len_dict hd dd (by rw[<-rel.length];rw[cz]at z;omega) ?_;rw[<-rel.length];exact h _ _ (I.tok _)
end
def KE(i:Expr):Prop:=∀ov iv,subscripted i false ov iv=operate [ov,iv] (getItem ov iv)
theorem Hh{prog:aq}{w:ao}{A:ay}{E:aa->ae->Prop}{s:ae}{env:Env}{value slice:Expr}{pos:Pos}{id:String}
  (hl:typeLookup (.type T) "__getitem__" = pure (some (.builtin id))) (hs:KE slice)
  (h:af (model prog w) A (eval value env) (λo s₁=>af (model prog w) A (eval slice env) (λi s₂=>s₂.TypeIs o T/\af (model prog w) A (getItem o i) Q E s₂) E s₁) E s):
  af (model prog w) A (eval (.Subscript value slice pos) env) Q E s:=by
 refine i3 (br h (λo s₁ h₁=>br h₁ (λi s₂ h₂=>?_) λ_ _ x=>x) λ_ _ x=>x);obtain⟨hT,h₂⟩:=h₂;unfold subscriptTail;refine au ?_;rw[getitemInPython_of_ne hT.not_modules];refine au (kg hT hl ?_);have fin:af (model prog w) A (subscripted slice false o i) (λr s₃=>af (model prog w) A (letTemporaryGo value o r>>=λ_=>pure r) Q E s₃) E s₂:=by rw[hs o i];exact wpAny_operating (br h₂ (λr s₃ h₃=>au (wpAny_letTemporaryGo (aD h₃))) λ_ _ x=>x)
 first
  |exact aD (au fin)
  |exact au (aD (au fin))
  |exact au fin
variable{X:Cx}{a:Addr}
theorem AA{H:Hp}{s:ae}{o:Option V}(I:Inv X pins σ H s)(g:DGet H a y o):s.TypeIs (.ref a) "dict" := by
 rcases g with ⟨kvs,k,e,_,_⟩|⟨kvs,k,b,e,_,_,_⟩
 ·obtain⟨_,_,vs,_,dd⟩:=Ay I.hok e;exact dd.typeIs
 ·obtain⟨_,_,xs,_,dd⟩:=Cn I.hok e;exact dd.typeIs
def NT(td ty:TE):TE:=λσ H Q=>td σ H λx H1=>ty σ H1 λy H2=>∃a v,x=.ref a/\DGet H2 a y (some v)/\Q v H2
def Jw(td ty tv:TE):TS:=λD σ H=>tv σ H λv H1=>td σ H1 λx H2=>ty σ H2 λy H3=>∃a H4,x=.ref a/\EM H3 a y v H4/\D.nx σ H4
section
variable{X:Cx}{o i e value:Expr}{pos pos' tpos:Pos}{td ty tv:TE}
theorem Hk(hu:X.A.units+1<cLine)(ho:PE X o td)(hi:PE X i ty)(hs:KE i):PE X (.Subscript o i pos) (NT td ty):=by intro pins s σ H Q I h;refine Hh F.slot_dict_getitem.lookup hs (thn (ho pins s σ H _ I h) λu s1 ⟨x,H1,I1,rx,q1⟩=>thn (hi pins s1 σ H1 _ I1 q1) λiv s2 zz=>?_);obtain⟨y,H2,I2,ry,a,v,ex,g,q2⟩:=zz;subst ex;obtain rfl:u=Value.ref a:=rx;exact⟨AA I2 g,DO hu I2 g ry λw' s3 I3 rw'=>⟨v,H2,I3,rw',q2⟩⟩
theorem Hl(hu:X.A.units+1<cLine)(ho:PE X o td)(hi:PE X i ty)(hv:PE X value tv)(hs:b9 value (some (.Subscript o i pos')) pos.line X.env=pure false):
  PS X (.Assign [.Subscript o i pos'] value pos) (Jw td ty tv):=by
 intro pins s σ H D I h;refine wpAny_Assign_Subscript (thn (hv pins s σ H _ I h) λr s1 ⟨v,H1,I1,rv,q1⟩=>thn (ho pins s1 σ H1 _ I1 q1) λu s2 ⟨x,H2,I2,rx,q2⟩=>thn (hi pins s2 σ H2 _ I2 q2) λiv s3 zz=>?_) hs;obtain⟨y,H3,I3,ry,a,H4,ex,g,q3⟩:=zz;subst ex;obtain rfl:u=Value.ref a:=rx;exact DP hu I3 g ry rv λs4 I4=>⟨σ,H4,I4,q3⟩
end
theorem EO{P:aq}{w:ao}{H:Hp}(h:Heap)(hb:cE<h.objs.size):o8 P w H (h.push { cls:=.type "dict", data:=.dict #[] }) h.objs.size (.dK []):=
 ⟨b8 _,beq_eq_false_iff_ne.mpr (dN (aR hb)),[],.nil,nG h⟩
def BA:TE:=λ_ H Q=>∀p,H p=none->Q (.ref p) (upd H p (.dK []))
section
variable{X:Cx}{pos:Pos}
theorem AB:PE X (.Dict [] [] pos) BA:=λpins s σ H Q I h=>
 wpAny_Dict_empty ⟨.ref s.heap.objs.size,_,I.laid (a:=s.heap.objs.size) (o:=.dK []) (t':=s.toks) (λ_ _ q=>aJ _ q) (aC _) (EO s.heap I.big),rfl,h _ (I.hok.fresh (aC _))⟩
end
structure M2(X:Cx)(o:Expr)(m:Str)(apos:Pos)(e f:Expr)(cpos:Pos):Prop where
 base:d6 o m X.env (eval o X.env)=eval o X.env
 few:((aX cpos (ar [e,f] X.env)).all (λx=>!x.1)&&(backToKw cpos (dh [] X.env)).all (λx=>x.1.isSome)
  && decide (([e,f]:List Expr).length+([]:List fj).length+(if ([]:List fj).isEmpty then 0 else 1)<30))=true
 line:(apos.endLine==cpos.line)=true
 trees:aX cpos (ar [e,f] X.env)=[(false,eval e X.env),(false,eval f X.env)]
def IsD(H:Hp)(a:Addr):Prop:=(∃kvs,Rd H a (.dK kvs))\/∃kvs,Rd H a (.dT kvs)
theorem KF{H:Hp}{s:ae}(I:Inv X pins σ H s)(d:IsD H a):
  s.TypeIs (.ref a) "dict" /\ (∀b,Value.ref a=.ref b->∃ob,s.heap.get? b=some ob/\ob.dict=none)/\(a==cE)=false:=by
 rcases d with ⟨kvs,e⟩|⟨kvs,e⟩
 ·obtain⟨_,hd,vs,_,dd⟩:=Ay I.hok e;refine⟨dd.typeIs,λb q=>?_,hd⟩;cases q;obtain⟨ob,_,_,h1,h2,_⟩:=dd;exact⟨ob,h1,h2.2.1⟩
 ·obtain⟨_,hd,xs,_,dd⟩:=Cn I.hok e;refine⟨dd.typeIs,λb q=>?_,hd⟩;cases q;obtain⟨ob,_,_,h1,h2,_⟩:=dd;exact⟨ob,h1,h2.2.1⟩
end L2
namespace Att
open PySem PySem.W PySem.Calls PyProof.Rows
theorem xh{P:fU}{h:Heap}:∀(ns:List Int) (vs:List aa),WellAll P h vs (ns.map WData.int)->fT vs ns:=by
 intro ns
 induction ns with
 |nil=>intro vs w;rw[eR]at w;cases w;exact .nil
 |cons n ns ih=>
  intro vs w;rw[aN]at w;cases w with
  |cons a b=>cases a;exact .cons _ _ (ih _ b)
variable{l:fS}
theorem DQ{n:Nat}(hn:l.most=some n){P:fU}{h:Heap}{args:List WData}{vals:List aa}
  (hpre:l.row.toRowW.claim.pre args=true) (hwl:WellAll P h vals args):
  ∃a vs ns,vals=[Value.ref a]/\args=[WData.list (ns.map WData.int)]/\h.get? a=some { cls:=.type "list", data:=.seq vs.toArray }/\fT vs ns/\ns.length<=n:=by
 have hsh:WShape.hasAll [] args [.list .int]=true:=(pre_splitW hpre).1;have hc:l.pre.holds [] { args:=args }=true:=(pre_splitW hpre).2;obtain⟨d,r,rfl,h1,h2⟩:=hasAllW_cons hsh;obtain rfl:=hasAllW_nil h2;obtain⟨xs,rfl,h3⟩:=hasW_list h1;obtain⟨ns,rfl⟩:=items_int h3;have hlen:ns.length<=n:=by
  unfold OpenLaw.pre at hc;have h4:(WTm.not (.lt (.lit (.int (n:Int))) (.len (.arg 0)))).holds [] { args:=[.list (ns.map .int)] }=true:=by have h4:=(holds_andW hc).1;rw[hn]at h4;exact h4
  have h5:=condW_of h4 (w_not (w_lt w_lit (w_len_list (w_arg rfl))));rw[ai]at h5;refine j8 λq=>?_;have q':(n:Int)<((ns.length:Nat):Int):=by omega
  first
   |(rw[bc q']at h5;exact ak h5 (by decide))
   |(simp at h5;omega)
 cases hwl with
 |cons w1 w2=>
  cases w2;cases w1 with
  |list ho hall=>exact⟨_,_,ns,rfl,rfl,ho,xh ns _ hall,hlen⟩
theorem DR(l:fS)(args:List WData):l.row.toRowW.claim.post args (.bool true) args=true:=
 postW_of (r:=l.row.toRowW) (X:=(true==true))
  (show ly [] (.bool true) .bool=true by first|rfl|decide|simp[ly,WShape.arms,WShape.armsAll])
  (show (WTm.eq .res (.lit (.bool true))).value [] { args:=args,res:=some (.bool true),after:=args }=some (.bool (true==true)) from w_eq_bool (w_res rfl) w_lit) rfl
theorem attach_call{n:Nat}{q:aq}{loose:List Str}{XP:(Str->Option aa)->Heap->Prop}{YP:ao->Heap->Prop}{d:DefRec}
  (hn:l.most=some n) (hdf:d.params.defaults=[])
  (call:∀(w:ao) (s₀ s₁:ae) (mg mb:Str->Option aa) (fa:Addr) (o:Obj) (pm cd doc:aa) (a:Addr) (vs:List aa) (ns:List Int),
   Ground q loose [] XP w s₀ mg mb s₁.heap->YP w s₁.heap->
   s₁.heap.get? fa=some o->o.data=.func (docDef d.name d.params d.body d.scope pm cd doc)->s₁.heap.CodeRec cd d.name->mg d.name=some (.ref fa)->
   s₁.heap.get? a=some { cls:=.type "list", data:=.seq vs.toArray }->fT vs ns->ns.length<=n->s₁.gens=#[]->
   bV (model l.prog w) callerA (.call (.ref fa) ⟨[.ref a],[]⟩) (λr s'=>r=.ok (.ret (.bool true))/\OldK s₁.heap s'.heap/\s'.os=s₁.os/\cX s'.gens) s₁):
  WalkO q loose XP YP l.row.toRowW d [] (λf vs=>i6 f vs):=by
 intro w s₀ s₁ mg mb G Y fa o pm cd doc dV kV ho hd hcd hD hmg hg args vals as hpre hlay hrd hwl hlo;obtain rfl:dV=.none:=Dflts.none hD hdf;obtain rfl:kV=.none:=Dflts.noKw hD;obtain⟨a,vs,ns,rfl,rfl,hobj,hints,hlen⟩:=DQ hn hpre hwl;refine enter_call (ee (call w s₀ s₁ mg mb fa o pm cd doc a vs ns G Y ho (fd_plain hd) hcd hmg hobj hints hlen hg) λr s' hq=>?_);obtain⟨rfl,h2,h3,h4⟩:=hq;exact⟨.inl ⟨.bool true,.bool true,[],rfl,λ_=>rfl,.bool true,DR l _,λ_=>⟨List.Pairwise.nil,λ_ hm=>(nomatch hm)⟩⟩,h2,h3,h4⟩
end Att
namespace L2
open PySem PySem.Spec PyProof.Rows
theorem yZ:∀{vs:List aa} {ns:List Int},fT vs ns->Vals (ns.map V.int) vs
 |_,_,.nil=>.nil
 |_,_,.cons n t h=>.cons ⟨t,rfl⟩ (yZ h)
def KG(H:Hp):Prop:=∀b,H b=none\/∃o xs,H b=some (.frz o (.lst xs))
variable{a:Addr}{fd:bu}{x:Str}{sp:Sp}
theorem ER{P:aq}{w:ao}{K:aj}{mg mb:Str->Option aa}{CX:CXT}{k:Nat}{fa:Addr}{s₁:ae}{vs:List aa}{ns:List Int}
  (KX:K.In s₁.heap) (hns:s₁.heap.Ns aG mg) (hb:s₁.heap.Ns builtinsNs mb) (hbb:∀x:Str,x≠"__name__" -> mb x=cQ x) (hlim:s₁.heap.NoLimit) (hg:s₁.gens=#[])
  (ha:s₁.heap.get? a=some { cls:=.type "list", data:=.seq vs.toArray }) (hi:fT vs ns) (hl:ns.length<=az) (hr:pf k callerA)
  (F:∀base:Heap,K.In base->base.Ns aG mg->qD P w K mg base CX k fa fd [x] sp) (hbind:∀(s:ae) (u:aa),fi s fd ⟨[u],[]⟩ [(x,u)])
  (hsp:∀H:Hp,KG H->SqL K H a (ns.map V.int)->sp [.ref a] H (λv _=>v=.bl true) λ_ _ _=>False)
  (hCX:∀H e s',CX [] H s₁ (λ_ _ _=>False) e s'->False):
  bV (model P w) callerA (.call (.ref fa) ⟨[.ref a],[]⟩) (λr s'=>r=.ok (.ret (.bool true))/\OldK s₁.heap s'.heap/\s'.os=s₁.os/\cX s'.gens) s₁:=by
 have rv:=yZ hi;have lenV:=hi.length;have core:∀H:Hp,KG H->SqL K H a (ns.map V.int)->HOk P w H s₁.heap->(∀b,H b≠none->b=a)->(H a≠none->K.lookup a=none)->
   bV (model P w) callerA (.call (.ref fa) ⟨[.ref a],[]⟩) (λr s'=>r=.ok (.ret (.bool true))/\OldK s₁.heap s'.heap/\s'.os=s₁.os/\cX s'.gens) s₁:=by
  intro H hO hS hok hA hK;have base_of:∀{b:Addr} {o:Obj},s₁.heap.get? b=some o->H b=none->(zF s₁.heap H).get? b=some o:=λe n=>Eo e n;have noA:∀{b:Addr} {o:Obj} {es:Array DictEntry} {ep:Nat},s₁.heap.get? b=some o->o.data=.dict es ep->H b=none:=λ{b o es ep} e d=>by
   cases q:H b with
   |none=>rfl
   |some u=>have e':b=a:=hA b (by rw[q];simp);subst e';rw[ha]at e;cases e;have d':Data.seq vs.toArray _=Data.dict es ep:=d;cases d'
  have nsK:∀{b:Addr} {m:Str->Option aa},s₁.heap.Ns b m->(zF s₁.heap H).Ns b m:=λ{b m} ⟨o,es,ep,e,d,r⟩=>⟨o,es,ep,base_of e (noA e d),d,r⟩;have hKb:K.In (zF s₁.heap H):=λb o e=>base_of (KX b o e) (by
   cases q:H b with
   |none=>rfl
   |some u=>
    have e':b=a:=hA b (by rw[q];simp);subst e';rw[hK (by rw[q];simp)]at e;cases e)
  have hM:Mod K mg (zF s₁.heap H):=⟨hKb,nsK hns,⟨mb,nsK hb,hbb⟩,let ⟨mc,h1,h2⟩:=hlim;⟨mc,nsK h1,h2⟩⟩;have e0:Bv P w K mg (zF s₁.heap H) callerA [] s₁ H:=⟨rfl,hM,λb o e=>GP e,kR (Dw _ _),trivial,λb hb=>ak (show b∈([]:List Addr) from hb) (by simp),hok,.of_eq hg⟩;refine ee ((F _ hKb (nsK hns)).run callerA [] s₁ H ⟨[.ref a],[]⟩ [.ref a] [.ref a] _ _ hr e0 (hbind s₁ (.ref a)) (.cons rfl .nil) (hsp H hO hS)) λr s' h=>?_;cases r with
  |error e=>exact(hCX H e s' h).elim
  |ok fl=>
   cases fl with
   |next=>exact bQ h
   |brk=>exact bQ h
   |cont=>exact bQ h
   |ret u=>
    obtain⟨v,H',os,bare,un,hok',r',q⟩:=h;have q':v=.bl true:=q;subst q';obtain rfl:u=Value.bool true:=r';refine⟨rfl,OldK.of_keep λb o e=>?_,os,bare⟩;cases q:H b with
    |none=>exact un.keep b o e q (by intro z;exact ak (show b∈([]:List Addr) from z) (by simp)) (by simp)
    |some u=>
     rcases hO b with z|⟨ob,xs,z⟩
     ·rw[q]at z;cases z
     ·have z2:=un.frzs b ob _ z;obtain⟨e1,_⟩:=hok b _ z;obtain⟨e2,_⟩:=hok' b _ z2;rw[e]at e1;cases e1;exact e2
 cases hk:K.lookup a with
 |some o=>have e:=KX a o hk;rw[ha]at e;cases e;refine core (λ_=>none) (λ_=>.inl rfl) (.inr ⟨_,vs.toArray,_,hk,rfl,rfl,rfl,by rw[aQ,lenV];exact hl,by simpa using rv⟩) (λb u z=>by have z':(none:Option HO)=some u:=z;cases z') (λb z=>ak rfl z) λz=>ak rfl z
 |none=>
  refine core (λb=>if b=a then some (.frz { cls:=.type "list", data:=.seq vs.toArray } (.lst (ns.map V.int)))else none) (λb=>?_) (.inl (.inr ⟨{ cls:=.type "list", data:=.seq vs.toArray },ag rfl⟩)) (λb u z=>?_) (λb z=>?_) λ_=>hk
  ·by_cases hb:b=a
   ·exact .inr ⟨_,_,ag hb⟩
   ·exact .inl (ah hb)
  ·by_cases hb:b=a
   ·have z':=(ag hb).symm.trans z;cases z';subst hb;exact⟨ha,by rw[ai];exact hl,vs,_,rv,ha⟩
   ·have z':=(ah hb).symm.trans z;cases z'
  ·by_cases hb:b=a
   ·exact hb
   ·exact ak (ah hb) z
theorem Hm{l:fS}{n k:Nat}{q:aq}{loose:List Str}{XP:(Str->Option aa)->Heap->Prop}{YP:ao->Heap->Prop}{d:DefRec}{K:fU->aj}{CX:ao->CXT}{sp:ao->Sp}
  (hn:l.most=some n) (hn2:n<=az) (hdf:d.params.defaults=[]) (hr:pf k callerA)
  (hY:∀(w:ao) (h:Heap),YP w h->(K w.params).In h)
  (F:∀(w:ao) (mg:Str->Option aa) (fa:Addr) (h:Heap),(K w.params).In h->h.Ns aG mg->mg d.name=some (.ref fa)->
   ∃fd:bu,(∀(s:ae) (u:aa),fi s fd ⟨[u],[]⟩ [(x,u)])/\
    ∀base:Heap,(K w.params).In base->base.Ns aG mg->qD l.prog w (K w.params) mg base (CX w) k fa fd [x] (sp w))
  (hsp:∀(w:ao) (H:Hp) (a:Addr) (ns:List Int),ns.length<=n->KG H->SqL (K w.params) H a (ns.map V.int)->sp w [.ref a] H (λv _=>v=.bl true) λ_ _ _=>False)
  (hCX:∀(w:ao) (H:Hp) (s:ae) (e:aa) (s':ae),CX w [] H s (λ_ _ _=>False) e s'->False):
  W.WalkO q loose XP YP l.row.toRowW d [] (λf vs=>i6 f vs):=by
 refine Att.attach_call hn hdf λw s₀ s₁ mg mb fa o pm cd doc a vs ns G Y ho hd hcd hmg hobj hints hlen hg=>?_;have KX:=hY w _ Y;obtain⟨fd,hb,hF⟩:=F w mg fa _ KX G.T.g hmg;exact ER KX G.T.g G.T.b G.T.builtins G.T.nolimit hg hobj hints (bH hlen hn2) hr hF hb (λH hO hS=>hsp w H a ns hlen hO hS) λH e s'=>hCX w H s₁ e s'
def inClass(s:Stmt)(j:Nat):Stmt:=match s with
 |.ClassDef _ _ _ body _ _ _ _ _ _ _=>body.getD j (.Pass ⟨0,0,0,0⟩)
 |_=>.Pass ⟨0,0,0,0⟩
def qE(s:Stmt):Arguments:=match s with
 |.FunctionDef _ a _ _ _ _ _ _ _ _=>a
 |_=>{ posonlyargs:=[],args:=[],vararg:=none,kwonlyargs:=[],kw_defaults:=[],kwarg:=none,defaults:=[] }
def oi(s:Stmt):List Stmt:=match s with
 |.FunctionDef _ _ b _ _ _ _ _ _ _=>b
 |_=>[]
def nV(s:Stmt):bW:=match s with
 |.FunctionDef _ _ _ _ _ _ sc _ _ _=>sc
 |_=>{ kind:=.function,names:=[],isGenerator:=false,isCoroutine:=false }
abbrev CX0:CXT:=λ_ _ _ _ _ _=>False
abbrev E0:XK:=λ_ _ _=>False
theorem xI{X:Cx}:Passes CX0 X E0:=λ_ _ _ _ _ _ _ h=>h.elim
structure Fun(K:aj)(x qual:Str)(st:Stmt)(f:Addr)(fd:bu):Prop where
 ex:∃(oc:aa) (od:Option Addr) (kV doc pm:aa) (an:Option Addr) (cdv ct:aa) (osl:Array (Option aa)),
  fd=dq x qual (qE st) (oi st) (nV st) .none kV doc pm an cdv ct/\K.lookup f=some ⟨oc,od,.func fd,osl⟩/\eY K cdv qual=true
 kp:cG K (.ref f)=true
variable{qual:Str}{ps:List Str}
section
variable{P:aq}{w:ao}{K:aj}{mg:Str->Option aa}{base:Heap}
theorem Fun.ok{st:Stmt}{f:Addr}{N:List Str}{k:Nat}(F:Fun K x qual st f fd)(S:pJ N ps (nV st))(len:∀vs H Q E,sp vs H Q E->vs.length=ps.length)
  (hbody:∀(cdv:aa) (A:ay) (outer:List Env) (s:ae) (H:Hp) (vs:List V) (Q:VK) (E:XK),pf k (A.deeper (envOfC qual (nV st) s.heap.objs.size f cdv))->sp vs H Q E->
   ∃t,PSs (zK CX0 P w K mg base N qual (nV st) f cdv A outer s H E).nox (oi st) t/\t { nx:=λ_ H'=>Q .non H',rt:=Q } (start N vs) H):qD P w K mg base CX0 (k+1) f fd ps sp:=by
 obtain⟨oc,od,kV,doc,pm,an,cdv,ct,osl,rfl,lk,hcd⟩:=F.ex;refine Au lk hcd S len λA outer s H vs Q E hr hsp=>?_;obtain⟨t,h,q⟩:=hbody cdv A outer s H vs Q E hr hsp;exact⟨t,h.nox,q⟩
theorem Fun.binds{st:Stmt}{f:Addr}(F:Fun K x qual st f fd)
  (h:∀(kV doc pm:aa) (an:Option Addr) (cdv ct:aa) (us:List aa),us.length=ps.length->bindArgs (dq x qual (qE st) (oi st) (nV st) .none kV doc pm an cdv ct) ⟨us,[]⟩=pure (ps.zip us)):Binds K fd ps []:=by
 obtain⟨oc,od,kV,doc,pm,an,cdv,ct,osl,rfl,lk,hcd⟩:=F.ex;exact .all (h kV doc pm an cdv ct)
end
theorem Jx{A:ay}{k:Nat}(hr:pf k A):A.units+1<cLine:=ic (Nat.add_le_add_left (by decide:1<=64) _) hr.units
theorem uy{n:Nat}(h:n<=1000):n<az:=ic h (by decide)
section
variable{X:Cx}
theorem pv(i:Nat){pos:Pos}(hN:X.N[i]?=some x:=by rfl)(hv:Vis X.env.scope x:=by first|exact Or.inl rfl|exact Or.inr (Or.inl rfl)|exact Or.inr (Or.inr rfl))(hd:(x==("__debug__" : Str))=false:=by decide)
  (hcd:(x==("__classdict__" : Str))=false:=by decide):PE X (.Name x pos) (sj i):=J3 hN hv hd hcd
end
variable{B:Prop}
theorem AC{A:Prop}(h:B):if false=true then A else B:=by rw[ah bf];exact h
theorem AD{A:Prop}(h:A):if true=true then A else B:=by rw[ag rfl];exact h
def nR(H H':Hp):Prop:=∀b o,H b=some o->H' b=some o
theorem nR.refl(H:Hp):nR H H:=λ_ _ h=>h
theorem nR.trans{H H1 H2:Hp}(a:nR H H1)(b:nR H1 H2):nR H H2:=λc o h=>b c o (a c o h)
theorem nR.seq{K:aj}{H H':Hp}{xs:List V}(e:nR H H')(h:SqL K H a xs):SqL K H' a xs:=by
 rcases h with (h|⟨o,h⟩)|h
 ·exact .inl (.inl (e _ _ h))
 ·exact .inl (.inr ⟨o,e _ _ h⟩)
 ·exact .inr h
end L2
set_option maxHeartbeats 4000000
namespace L3
open PySem PySem.Spec PyProof.Rows L2
abbrev St:=L2.St
theorem xJ{α β:Type}{f:α->β->Sem (ForInStep β)}{g:β->α->β}:∀(l:List α) (b:β),(∀x∈l,∀c,f x c=pure (ForInStep.yield (g c x)))->(forIn l b f:Sem β)=pure (l.foldl g b)
 |[],b,_=>by simp
 |x::r,b,h=>by rw[List.forIn_cons,h x aH b];show (forIn r (g b x) f:Sem β)=_;rw[xJ r (g b x) λy hy c=>h y (aM _ hy) c];rfl
def tJ(cells:List (Str×Addr))(cs:List (Str×Addr))(x:Str×cU):List (Str×Addr):=if (x.2==NameKind.free)=true then (x.1,(cells.lookup x.1).getD 0)::cs else cs
def rj(cells:List (Str×Addr))(names:List (Str×cU)):List (Str×Addr):=names.foldl (tJ cells) []
variable{scope:bW}{env:Env}
theorem yK(h:∀x∈scope.names,x.2=.free->∃c,env.cells.lookup x.1=some c):
  closureFor scope env=pure (rj env.cells scope.names):=by
 simp only[closureFor];rw[xJ (g:=tJ env.cells) scope.names [] λx hx c=>by
  obtain⟨n,k⟩:=x;by_cases hk:k=.free
  ·subst hk;obtain⟨a,e⟩:=h _ hx rfl;have e':env.cells.lookup n=some a:=e;simp only[tJ,cellOf,e',beq_self_eq_true,if_true,j9];rfl
  ·have hb:(k==NameKind.free)=false:=by simpa using hk
   simp only[tJ,hb,fD,if_false]]
 rfl
theorem AE{cells:List (Str×Addr)}:∀(names:List (Str×cU)) (acc:List (Str×Addr)),(∀x∈names,x.2=.free->∃c,cells.lookup x.1=some c)->(∀x c,acc.lookup x=some c->cells.lookup x=some c)->
  ∀x c,(names.foldl (tJ cells) acc).lookup x=some c->cells.lookup x=some c
 |[],acc,_,ha,x,c,e=>ha x c e
 |y::r,acc,h,ha,x,c,e=>by
  refine AE r (tJ cells acc y) (λz hz=>h z (aM _ hz)) (λz d ez=>?_) x c e;obtain⟨n,k⟩:=y;unfold tJ at ez;split at ez
  ·rename_i hk;obtain⟨a,ea⟩:=h (n,k) aH (by simpa using hk);have ea':cells.lookup n=some a:=ea;rw[dA]at ez;cases hb:z==n with
   |true=>rw[hb]at ez;have ez':some ((cells.lookup n).getD 0)=some d:=ez;rw[ea']at ez';rw[eW hb,ea'];exact ez'
   |false=>rw[hb]at ez;exact ha z d ez
  ·exact ha z d ez
theorem y3{cells:List (Str×Addr)}:∀(names:List (Str×cU)) (acc:List (Str×Addr)) (x:Str),(∃c,acc.lookup x=some c)->∃c,(names.foldl (tJ cells) acc).lookup x=some c
 |[],_,_,h=>h
 |y::r,acc,x,h=>by
  refine y3 r (tJ cells acc y) x ?_;unfold tJ;split
  ·rw[dA];cases x==y.1 with
   |true=>exact⟨_,rfl⟩
   |false=>exact h
  ·exact h
theorem xK{cells:List (Str×Addr)}:∀(names:List (Str×cU)) (acc:List (Str×Addr)) (x:Str),(x,NameKind.free)∈names->∃c,(names.foldl (tJ cells) acc).lookup x=some c
 |[],_,_,h=>by cases h
 |y::r,acc,x,h=>by
  rcases aW.mp h with e|h
  ·subst e;refine y3 r _ x ?_;unfold tJ;rw[ag (by simp),dA];simp
  ·exact xK r _ x h
theorem sS{env:Env}(x:Str):∀(names:List (Str×cU)),
  (names.map λ(n,k)=>if (k==NameKind.free&&env.scope.kind==.function&&env.kindOf n==some .cell)then (n,NameKind.cell)else (n,k)).lookup x=
   (names.lookup x).map λk=>if (k==NameKind.free&&env.scope.kind==.function&&env.kindOf x==some .cell)=true then NameKind.cell else k
 |[]=>rfl
 |(n,k)::r=>by
  have ih:=sS (env:=env) x r;rw[aN,dA (k:=n)];show cD x ((if (k==NameKind.free&&env.scope.kind==.function&&env.kindOf n==some .cell)=true then (n,NameKind.cell)else (n,k))::_)=_;cases hx:x==n with
  |true=>
   have e:=eW hx;subst e;split
   ·rename_i hc;simp only[dA,hx,dX,hc,if_true]
   ·rename_i hc;simp only[dA,hx,dX];rw[ah hc]
  |false=>
   rw[<-ih];split
   ·simp only[dA,hx]
   ·simp only[dA,hx]
variable{x:Str}
theorem BB(hcell:∀y∈scope.names,y.2≠.cell)(h:(relabel scope env).names.lookup x=some .cell\/(relabel scope env).names.lookup x=some .free):(x,NameKind.free)∈scope.names:=by
 have e:=sS (env:=env) x scope.names;have h':(scope.names.lookup x).map (λk=>if (k==NameKind.free&&env.scope.kind==.function&&env.kindOf x==some .cell)=true then NameKind.cell else k)=some .cell\/
   (scope.names.lookup x).map (λk=>if (k==NameKind.free&&env.scope.kind==.function&&env.kindOf x==some .cell)=true then NameKind.cell else k)=some .free:=by
  rw[<-e];exact h
 cases q:scope.names.lookup x with
 |none=>rw[q]at h';rcases h' with z|z<;>cases z
 |some k=>
  rw[q]at h';have hm:=mem_of_lookup q;have hc:=hcell _ hm;cases k with
  |free=>exact hm
  |cell=>exact ak rfl hc
  |_=>rcases h' with z|z<;>cases z
theorem yL(h:scope.names.lookup x=some .free):(relabel scope env).names.lookup x=some .cell\/(relabel scope env).names.lookup x=some .free:=by
 have e:=sS (env:=env) x scope.names;have e':(relabel scope env).names.lookup x=(scope.names.lookup x).map λk=>if (k==NameKind.free&&env.scope.kind==.function&&env.kindOf x==some .cell)=true then NameKind.cell else k:=e
 rw[e',h,dX];split
 ·exact .inl rfl
 ·exact .inr rfl
def ph(X:Cx)(N':List Str)(scope:bW)(cl:List (Str×Addr))(C:Addr)(fp:List Addr)(s:ae)(H:Hp):Cx:=
 { X with N:=N',s₀:=s,H₀:=H,env:=compEnvC scope cl C X.env,outer:=X.stack,ex:=fp,fn:=λ_=>false,pn:=[],xe:=λ_ _=>False }
def PIf(X:Cx)(ifs:List Expr)(t:TT):Prop:=
 ∀(pins:List (Addr×Obj)) (s:ae) (σ:St) (H:Hp) (Q:Bool->Hp->Prop),Inv X pins σ H s->t σ H Q->
  af (model X.prog X.w) X.A (forIn ifs true λc r=>if r=true then do let ok<-isTrue c X.env (eval c X.env);pure (ForInStep.yield ok)else pure (ForInStep.yield r)) (TP X pins σ Q) X.xe s
def Pa:TT:=λ_ H Q=>Q true H
variable{X:Cx}
theorem Hn:PIf X [] Pa:=λ_ _ _ H _ I h=>wpAny_tests_nil ⟨H,I,h⟩
theorem Ho{c:Expr}{t:TT}(h:PT X c t):PIf X [c] t:=λpins s σ H Q I hq=>wpAny_tests_one (h pins s σ H Q I hq)
variable{elt iter:Expr}{ifs:List Expr}{pos:Pos}
section
variable{prog:aq}{w:ao}{A:ay}{R:cY->ae->Prop}{s:ae}
theorem zT{target:Expr}{it acc:aa}(J:Nat->ae->Prop)
  (turn:∀n s,J n s->af (model prog w) A (pyNext it) (λr s₁=>match r with
   |none=>R (.ok .next) s₁
   |some v=>af (model prog w) A (eF target it v) (λ_ s₁'=>af (model prog w) A (assign target env v) (λ_ s₂=>
     af (model prog w) A (forIn ifs true λc r=>if r=true then do let ok<-isTrue c env (eval c env);pure (ForInStep.yield ok)else pure (ForInStep.yield r)) (λok s₃=>
      if ok=true then af (model prog w) A (eval elt env) (λx s₄=>
       af (model prog w) A (call (.builtin "list.append") [acc,x]) (λ_ s₅=>∃m,m<n/\J m s₅) (notedBy (model prog w) A env λe s'=>R (.error e) s') s₄) (notedBy (model prog w) A env λe s'=>R (.error e) s') s₃
      else ∃m,m<n/\J m s₃) (notedBy (model prog w) A env λe s'=>R (.error e) s') s₂) (notedBy (model prog w) A env λe s'=>R (.error e) s') s₁')
      (notedBy (model prog w) A env λe s'=>R (.error e) s') s₁) (notedBy (model prog w) A env λe s'=>R (.error e) s') s)
  (n:Nat) (h:J n s):
  bV (model prog w) A (.compLoop (.ListComp elt [⟨target,iter,ifs,0⟩] scope pos) 0 it acc env) R s:=by
 refine codeAny_loop rfl J (λn s hI=>?_) n h;show af _ A ((compTurn (.ListComp elt [⟨target,iter,ifs,0⟩] scope pos) 0 it acc env).onRaise (λx=>do noteFrame x env;theTreesLotGoes x)) _ _ s;refine wpAny_noted ?_;rw[compTurn_list];refine au (iF (au (br (turn n s hI) (λr s₁ h₁=>?_) λ_ _ h'=>h')));cases r with
 |none=>exact aD h₁
 |some v=>
  refine au (br h₁ (λ_ s₁' h₁'=>?_) λ_ _ h'=>h');refine au (br h₁' (λ_ s₂ h₂=>au (br h₂ (λok s₃ h₃=>?_) λ_ _ h'=>h')) λ_ _ h'=>h');cases ok with
  |false=>exact aD ⟨rfl,h₃⟩
  |true=>exact au (au (br h₃ (λx s₄ h₄=>au (br h₄ (λ_ s₅ h₅=>aD (aD ⟨rfl,h₅⟩)) λ_ _ h'=>h')) λ_ _ h'=>h'))
end
def qF(k:Nat)(cap:List Nat)(σ:St):St:=gn k none++cap.map λj=>(σ[j]?).join
variable{σ:St}
theorem y4{k:Nat}{cap:List Nat}{i:Nat}{v:V}(h:(qF k cap σ)[i]?=some (some v)):k<=i:=by
 by_cases hi:k<=i
 ·exact hi
 ·unfold qF at h;rw[cZ (by rw[bX];omega),fX]at h;split at h<;>cases h
variable{N N':List Str}
theorem DS{k:Nat}{cap:List Nat}{i:Nat}{v:V}(hcap:(N'.drop k).map some=cap.map λj=>N[j]?)(hx:N'[i]?=some x)(h:(qF k cap σ)[i]?=some (some v)):
  ∃j:Nat,N[j]?=some x/\σ[j]?=some (some v)/\x∈N'.drop k:=by
 have hi:=y4 h;unfold qF at h;rw[dr (by rw[bX];exact hi),bX,bb]at h;have hd:(N'.drop k)[i - k]?=some x:=by rw[c6,show k+(i - k)=i by omega];exact hx
 have e:=aL (λl=>l[i - k]?) hcap;simp only[bb,hd,dX]at e;cases q:cap[i - k]? with
 |none=>rw[q]at h;cases h
 |some j=>
  rw[q]at h e;simp only[dX,nD]at h e;refine⟨j,e.symm,?_,bw hd⟩;cases z:σ[j]? with
  |none=>rw[z]at h;cases h
  |some o=>rw[z]at h;have h':o=some v:=h;rw[h']
def wD(wi:TI)(g:TG)(tt:TT)(te:TE)(k:Nat)(cap:List Nat):TE:=λσ H Q=>wi σ H λJ H1=>∀p,H1 p=none->
 ∃W:Nat->Nat->List V->Hp->Prop,(∃m,W 0 m [] (upd H1 p (.lst [])))/\∀i m acc H2,W i m acc H2->
  (J.stop i H2/\Q (.ref p) H2)\/
   (J.go i H2/\∀x H3,J.yld i H2 x H3->g x (qF k cap σ) H3 λσ4 H4=>σ4.drop k=(qF k cap σ).drop k/\tt σ4 H4 λb H5=>
    if b=true then te σ4 H5 λy H6=>∃acc',H6 p=some (.lst acc')/\acc'.length<az/\∃m',m'<m/\W (i+1) m' (acc'++[y]) (upd H6 p (.lst (acc'++[y])))
    else ∃m',m'<m/\W (i+1) m' acc H5)
variable{tg:Expr}{wi:TI}{tt:TT}{te:TE}
theorem y6{pins:List (Addr×Obj)}{s:ae}{H:Hp}{use:Option (aa->Sem Unit)}{P:aa->ae->Prop}{Q:V->Hp->Prop}{k:Nat}{cap:List Nat}{g:TG}
  (hc:X.calm=true) (hi:PI X tg iter wi)
  (body:∀(cl:List (Str×Addr)) (C:Addr) (fp:List Addr) (s:ae) (H:Hp),PG (ph X N' scope cl C fp s H) tg g/\PIf (ph X N' scope cl C fp s H) ifs tt/\PE (ph X N' scope cl C fp s H) elt te)
  (hkind:scope.kind=.function) (hcell:(scope.names.all λy=>y.2 != .cell)=true)
  (hloc:(scope.names.all λy=>y.2 != .local||scope.names.lookup y.1==some .local)=true)
  (hfree:(scope.names.all λy=>y.2 != .free||(X.env.kindOf y.1==some .cell||X.env.kindOf y.1==some .free))=true)
  (hlen:N'.length=k+cap.length) (hcap:(N'.drop k).map some=cap.map λj=>X.N[j]?)
  (hcf:((N'.drop k).all λx=>scope.names.lookup x==some .free)=true)
  (hs:∀x,fF iter X.env x=pure x)
  (I:Inv X pins σ H s) (h:wD wi g tt te k cap σ H Q)
  (fin:∀a C m u s4 H3,s4.heap.Ns C m->Inv X pins σ H3 s4->zH X pins H3 C->Q (.ref a) H3->compPost (model X.prog X.w) X.A X.xe use P (.ref a) C (.ok u) s4):
  af (model X.prog X.w) X.A (comprehension (.ListComp elt [⟨tg,iter,ifs,0⟩] scope pos) scope X.env (firstIterPos [⟨tg,iter,ifs,0⟩] pos) (newList []) false (eval iter X.env) use) P X.xe s:=by
 have hcell':∀y∈scope.names,y.2≠.cell:=λy hy e=>by have z:=aw.mp hcell y hy;rw[e]at z;exact ak z (by decide)
 have hloc':∀y∈scope.names,y.2=.local->scope.names.lookup y.1=some .local:=λy hy e=>by have z:=aw.mp hloc y hy;rw[e]at z;simpa using z
 have hfree':∀y∈scope.names,y.2=.free->X.env.kindOf y.1=some .cell\/X.env.kindOf y.1=some .free:=λy hy e=>by have z:=aw.mp hfree y hy;rw[e]at z;simpa using z
 have hcl:∀y∈scope.names,y.2=.free->∃c,X.env.cells.lookup y.1=some c:=λy hy e=>I.ok.has y.1 (hfree' y hy e);refine wpAny_comprehension_free rfl hs (yK hcl) hkind hloc' (thn (hi pins s σ H _ I h) λxv s₁ h₁=>thn h₁ λit s₂ h₂=>?_);obtain⟨ita,fp,tn,J,H2,e,I2,T,st2,f2,R2⟩:=h₂;subst e;obtain⟨W,⟨m0,w0⟩,turn⟩:=R2 s₂.heap.objs.size (I2.hok.fresh (aC _));refine wpAny_newObj_type (wpAny_newFunctionEnv hcell' (by intro y hy;simp at hy) (λh₁ hns₁ hsb₁=>?_) hkind);dsimp only at hns₁ hsb₁ ⊢;generalize hp:s₂.heap.push { cls:=.type "list", dict:=none,data:=.seq ([]:List aa).toArray }=hpL at hns₁ hsb₁ ⊢;have hsz:hpL.objs.size=s₂.heap.objs.size+1:=by rw[<-hp,eK]
 have I3:Inv X pins σ (upd H2 s₂.heap.objs.size (.lst [])) { s₂ with heap:=hpL }:=by rw[<-hp];exact I2.laid (t':=s₂.toks) (λb u e=>aJ _ e) (aC _) ⟨b8 _,[],0,.nil,bx _ rfl⟩
 have old:∀b o,hpL.get? b=some o->h₁.get? b=some o:=λb o e=>hsb₁.extBut b o (aR (aF e)) (aJ _ e);have older:∀b o,s₂.heap.get? b=some o->hpL.get? b=some o:=λb o e=>by rw[<-hp];exact aJ _ e
 have hfpS:∀b∈fp,b<s₂.heap.objs.size:=λb hb=>let ⟨o,e,_⟩:=T.obj _ _ st2 b hb;aF e;have sub:∀x c,(rj X.env.cells scope.names).lookup x=some c->X.env.cells.lookup x=some c:=AE scope.names [] hcl (λx c e=>by cases e);have ok':(ph X N' scope (rj X.env.cells scope.names) hpL.objs.size fp { s₂ with heap:=hpL } (upd H2 s₂.heap.objs.size (.lst []))).Ok:={
  mod:=I3.ok.mod
  kind:=hkind
  glob:=I3.ok.glob
  blt:=I3.ok.blt
  above:=aC _
  inj:=λx y c h1 h2=>I3.ok.inj x y c (sub x c h1) (sub y c h2)
  has:=λx hx=>xK scope.names [] x (BB hcell' hx)
  cab:=λx c hf _=>ak (show false=true from hf) bf
  hd:=I3.ok.hd
  frames:=I3.ok.frames
  stk:=.inl rfl
  exf:=λb hb=>⟨(by
   show b≠hpL.objs.size;rw[hsz];exact aR (dy (hfpS b hb))),λx c e=>(f2 b hb).2.2.2.2.1 x c (sub x c e)⟩
  bs:=I3.bs
  bsz:=bH I3.ok.bsz I3.sz
  noex:=λb o e hb=>by
   rcases(f2 b hb).2.2.2.1 with z|z
   ·exact I3.ok.noex b o e z
   ·exact ak (bN (aF e) (bH I3.ok.bsz z)) (dG _)
  exfs:=λb hb z=>(aW.mp (I3.stkSub b z)).elim (f2 b hb).2.1 (f2 b hb).2.2.1
  funs:=I3.stack
  frf:=I3.stkFree }
 have IX:Inv (ph X N' scope (rj X.env.cells scope.names) hpL.objs.size fp { s₂ with heap:=hpL } (upd H2 s₂.heap.objs.size (.lst []))) [] (qF k cap σ) (upd H2 s₂.heap.objs.size (.lst []))
   { s₂ with heap:=h₁,toks:=s₂.toks+([]:List (Str×aa)).length }:={
  ok:=ok'
  os:=rfl
  bare:=I3.bare
  base:=Un.kept old
  loc:=⟨_,hns₁,λi x v e1 e2 _=>by
   obtain⟨j,hj,hσ,hm⟩:=DS hcap e1 e2;have hx:scope.names.lookup x=some .free:=by simpa using aw.mp hcf x hm
   have hk:=hfree' (x,.free) (mem_of_lookup hx) rfl;obtain⟨m,hn,hl⟩:=I3.loc;obtain⟨u,r,lk⟩:=hl j x v hj hσ (hk.elim (λz=>.inr (.inl z)) λz=>.inr (.inr z));refine⟨u,r,.inr ⟨yL hx,?_⟩⟩;rcases lk with ⟨z,_⟩|⟨_,c,e,o,ho,hd⟩
   ·rcases hk with y|y
    ·rw[y]at z;cases z
    ·rw[y]at z;cases z
   ·obtain⟨c',e'⟩:=xK (cells:=X.env.cells) scope.names [] x (mem_of_lookup hx);have ec:=sub x c' e';rw[e]at ec;have ec':c=c':=bT ec;subst ec';exact⟨c,e',o,old _ _ ho,hd⟩⟩
  cell:=λx c e=>by obtain⟨v,o,ho,hd⟩:=I3.cell x c (sub x c e);exact⟨v,o,old _ _ ho,hd⟩
  free:=I3.hok.fresh (aC _)
  freeC:=λx c e=>I3.freeC x c (sub x c e)
  pin:=λp hp=>ak (show p∈([]:List (Addr×Obj)) from hp) (by simp)
  hok:=I3.hok.kept old
  len:=by
   show (qF k cap σ).length=N'.length;rw[hlen];unfold qF;rw[aB,bX,ai] }
 have stat:∀{H':Hp},(∀b∈fp,H' b=none)->∀b∈fp,zH (ph X N' scope (rj X.env.cells scope.names) hpL.objs.size fp { s₂ with heap:=hpL } (upd H2 s₂.heap.objs.size (.lst []))) [] H' b:=λhn b hb=>⟨hn b hb,(ok'.exf b hb).1,ok'.exfs b hb,.inl hb,(ok'.exf b hb).2,λp hp=>ak (show p∈([]:List (Addr×Obj)) from hp) (by simp)⟩
 have st4:tn 0 h₁:=T.keep _ _ _ st2 λb _ o e=>old b o (older b o e);have loop:bV (model X.prog X.w) X.A (.compLoop (.ListComp elt [⟨tg,iter,ifs,0⟩] scope pos) 0 (.ref ita) (.ref s₂.heap.objs.size) (compEnvC scope (rj X.env.cells scope.names) hpL.objs.size X.env))
   (compPost (model X.prog X.w) X.A X.xe use P (.ref s₂.heap.objs.size) hpL.objs.size) { s₂ with heap:=h₁,toks:=s₂.toks+([]:List (Str×aa)).length }:=by
  refine zT (λn s'=>∃i acc H',Inv (ph X N' scope (rj X.env.cells scope.names) hpL.objs.size fp { s₂ with heap:=hpL } (upd H2 s₂.heap.objs.size (.lst []))) [] (qF k cap σ) H' s'/\tn i s'.heap/\(∀b∈fp,H' b=none)/\W i n acc H')
   ?_ m0 ⟨0,[],_,IX,st4,λb hb=>?_,w0⟩
  ·rintro n s3 ⟨i,acc,H3,I4,st3,fr3,w3⟩;rcases turn i n acc H3 w3 with ⟨stop,qn⟩|⟨go,step⟩
   ·refine thn (T.done (ph X N' scope (rj X.env.cells scope.names) hpL.objs.size fp { s₂ with heap:=hpL } (upd H2 s₂.heap.objs.size (.lst []))) rfl rfl rfl hc i [] s3 _ H3 _ I4 (stat fr3) st3 stop) λr s4 zz=>?_;obtain⟨hr,I5⟩:=zz;subst hr;obtain⟨m,hn,_⟩:=id I5.loc;have U:=I5.base;refine fin _ _ m _ _ _ hn (I3.call' (s':=s4) (ch:=fp) I5.os ⟨λb o e n hb hx=>U.keep b o e n hb hx,λb o e n hb hx=>U.slot b o e n hb hx,U.free,λb o e hx=>U.there b o e hx,U.tups,U.frzs,U.tbls⟩ I5.hok I5.bare
     λb hb=>⟨(f2 b hb).2.2.2.1,(f2 b hb).2.1,(f2 b hb).2.2.2.2.1,(f2 b hb).2.2.2.2.2⟩) (I3.fpOk (aC _) I5.free) qn
   ·refine thn (T.item (ph X N' scope (rj X.env.cells scope.names) hpL.objs.size fp { s₂ with heap:=hpL } (upd H2 s₂.heap.objs.size (.lst []))) rfl rfl rfl hc i [] s3 _ H3 _ I4 (stat fr3) st3 go) λr s4 zz=>?_;obtain⟨u,hr,h4⟩:=zz;subst hr;refine thn h4 λ_ s5 zz=>?_;obtain⟨x,H5,I5,r5,y5,st5,fr5⟩:=zz;have I5':=I5.pinned (stat fr5) (T.obj _ _ st5);have again:∀{H8:Hp} {s8:ae} {σ8:St} {acc8:List V} {m':Nat},Inv (ph X N' scope (rj X.env.cells scope.names) hpL.objs.size fp { s₂ with heap:=hpL } (upd H2 s₂.heap.objs.size (.lst []))) ([]++xD fp s5.heap) σ8 H8 s8->σ8.drop k=(qF k cap σ).drop k->m'<n->W (i+1) m' acc8 H8->
      ∃m,m<n/\∃i acc H',Inv (ph X N' scope (rj X.env.cells scope.names) hpL.objs.size fp { s₂ with heap:=hpL } (upd H2 s₂.heap.objs.size (.lst []))) [] (qF k cap σ) H' s8/\tn i s8.heap/\(∀b∈fp,H' b=none)/\W i m acc H':=λ{H8 s8 σ8 acc8 m'} I8 hd8 hm8 w8=>by
     refine⟨m',hm8,i+1,acc8,H8,I8.unpinned.weak (IX.len.trans I8.len.symm) (λj v e=>?_),T.keep _ _ _ st5 λb hb o e=>(I8.pin (b,o) (aK _ (aK _ (rN hb e)))).1,λb hb=>?_,w8⟩
     ·have hj:=y4 e;have q:(σ8.drop k)[j - k]?=((qF k cap σ).drop k)[j - k]?:=by rw[hd8]
      rw[c6,c6,show k+(j - k)=j by omega]at q;rw[q];exact e
     ·obtain⟨o,e,d⟩:=T.obj _ _ st5 b hb;exact(I8.pin (b,o) (aK _ (aK _ (rN hb e)))).2.1
    refine br ((body _ _ _ _ _).1 _ s5 _ H5 x u _ I5' r5 (step x H5 y5)) (λ_ s6 h6=>?_) λ_ _ f=>f.elim;obtain⟨σ6,H6,I6,hd6,q6⟩:=h6;refine br ((body _ _ _ _ _).2.1 _ s6 σ6 H6 _ I6 q6) (λb s7 h7=>?_) λ_ _ f=>f.elim;obtain⟨H7,I7,q7⟩:=h7;cases b with
    |false=>rw[ah bf]at q7;rw[ah bf];obtain⟨m',hm',w7⟩:=q7;exact again I7 hd6 hm' w7
    |true=>rw[ag rfl]at q7;rw[ag rfl];refine br ((body _ _ _ _ _).2.2 _ s7 σ6 H7 _ I7 q7) (λyv s8 h8=>?_) λ_ _ f=>f.elim;obtain⟨y,H8,I8,r8,acc',hp8,hl8,m',hm',w8⟩:=h8;refine br (vV (X:=ph X N' scope (rj X.env.cells scope.names) hpL.objs.size fp { s₂ with heap:=hpL } (upd H2 s₂.heap.objs.size (.lst []))) _ s8 σ6 H8 (.ref s₂.heap.objs.size) [y] (.ref s₂.heap.objs.size) [yv] (λ_ Hx=>Hx=upd H8 s₂.heap.objs.size (.lst (acc'++[y]))) I8 rfl (.cons r8 .nil) ⟨_,acc',y,rfl,rfl,hp8,hl8,rfl⟩) (λ_ s9 h9=>?_) λ_ _ f=>f.elim;obtain⟨_,H9,I9,_,e9⟩:=h9;subst e9;exact again I9 hd6 hm' w8
  ·have z:b≠s₂.heap.objs.size:=aR (hfpS b hb);rw[nT z];exact(f2 b hb).1
 exact codeAny_compStart_list loop (T.self _ 0 _ _ _ st4 loop)
theorem Hr{k:Nat}{cap:List Nat}{g:TG}
  (hc:X.calm=true) (hi:PI X tg iter wi)
  (body:∀(cl:List (Str×Addr)) (C:Addr) (fp:List Addr) (s:ae) (H:Hp),PG (ph X N' scope cl C fp s H) tg g/\PIf (ph X N' scope cl C fp s H) ifs tt/\PE (ph X N' scope cl C fp s H) elt te)
  (hkind:scope.kind=.function:=by rfl) (hcell:(scope.names.all λy=>y.2 != .cell)=true:=by rfl)
  (hloc:(scope.names.all λy=>y.2 != .local||scope.names.lookup y.1==some .local)=true:=by rfl)
  (hfree:(scope.names.all λy=>y.2 != .free||(X.env.kindOf y.1==some .cell||X.env.kindOf y.1==some .free))=true:=by rfl)
  (hlen:N'.length=k+cap.length:=by rfl) (hcap:(N'.drop k).map some=cap.map λj=>X.N[j]?:=by rfl)
  (hcf:((N'.drop k).all λx=>scope.names.lookup x==some .free)=true:=by rfl)
  (hs:∀x,fF iter X.env x=pure x:=by intro _;rfl):
  PE X (.ListComp elt [⟨tg,iter,ifs,0⟩] scope pos) (wD wi g tt te k cap):=by
 intro pins s σ H Q I h;exact y6 hc hi body hkind hcell hloc hfree hlen hcap hcf hs I h λa C m u s4 H3 hn back fpC qn=>⟨m,hn,λh' hs'=>⟨.ref a,H3,back.turned (t':=s4.toks) (λb o hb e=>(hs'.2 b hb).trans e) fpC.1 fpC.2.1 fpC.2.2.2.1 fpC.2.2.2.2.1 fpC.2.2.2.2.2,rfl,qn⟩⟩
def Its(x:Str):It:=⟨λi _=>i<x.cps.size,λi H v H'=>H'=H/\∃c,x.cps[i]?=some c/\v=.str ⟨#[c]⟩,λi _=>i=x.cps.size⟩
theorem KH{M:Model}{A:ay}{E:aa->ae->Prop}{s:ae}{it:Addr}{c:Str}{t:Tok}{Q:Unit->ae->Prop}(hQ:Q () s):af M A (eF tg (.ref it) (.str c t)) Q E s:=by unfold eF;cases tg<;>exact aD hQ
theorem AF{P:aq}{w:ao}{K:aj}(it:Addr)(ty:String)(x:Str)(t:Tok)
  (hW:∀A:ay,A.handled=none->Walks P w A it [it] [it] x.cps.size (SignAt x) (λi h=>h.IsStrIter it ty x t i))
  (hS:∀(A:ay) (i:Nat) (s:ae) (Q:aa->ae->Prop) (E:aa->ae->Prop),s.heap.IsStrIter it ty x t i->Q (.ref it) s->af (model P w) A (pyIter (.ref it)) Q E s):
  Turn P w K tg (Its x) [it] it (λi h=>h.IsStrIter it ty x t i) where
 mem:=by simp
 obj:=λi h st b hb=>by
  have e:b=it:=by simpa using hb
  subst e;obtain⟨o,e,c,d⟩:=st;exact⟨o,e,λv z=>by rw[d]at z;cases z⟩
 keep:=λi h h' st k=>by obtain⟨o,e,r⟩:=st;exact⟨o,k it (by simp) o e,r⟩
 item:=by intro X hP hw hK hc i pins s σ H E I hf st hg;subst hP hw hK;obtain⟨f0,f1,f2,f3,f4,f5⟩:=hf it (by simp);refine(hW _ (I.ok.hd hc)).item i s _ _ hg st λv h' tk hv st' kk=>?_;obtain⟨c,t',hc',rfl⟩:=hv;have I1:Inv X pins σ H { s with heap:=h',toks:=tk }:=I.turned (λb o hb e=>kk b o (by simpa using hb) e) f0 f1 f3 f4 f5;exact⟨_,rfl,KH ⟨.str ⟨#[c]⟩,H,I1,⟨t',rfl⟩,⟨rfl,c,hc',rfl⟩,st',λb hb=>(hf b hb).1⟩⟩
 done:=by intro X hP hw hK hc i pins s σ H E I hf st hg;subst hP hw hK;obtain⟨f0,f1,f2,f3,f4,f5⟩:=hf it (by simp);have hg':i=x.cps.size:=hg;subst hg';exact(hW _ (I.ok.hd hc)).done s _ _ st λh' tk kk=>⟨rfl,I.turned (λb o hb e=>kk b o (by simpa using hb) e) f0 f1 f3 f4 f5⟩
 self:=hS
variable{l:Expr}{tl:TE}
section
variable{X:Cx}{tg:Expr}
def NU(tl:TE):TI:=λσ H R=>tl σ H λv H1=>∃x,v=.str x/\R (Its x) H1
theorem KI(hl:PE X l tl):PI X tg l (NU tl):=by
 intro pins s σ H R I h;refine thn (hl pins s σ H _ I h) λv s1 zz=>?_;obtain⟨x,H1,I1,r1,q1⟩:=zz;obtain⟨z,e,q⟩:=q1;subst e;obtain⟨t,rfl⟩:=r1;have fp:∀b∈[s1.heap.objs.size],zH X pins H1 b:=λb hb=>by
  have e:b=s1.heap.objs.size:=by simpa using hb
  subst e;exact I1.fpOk (aC _) (I1.hok.fresh (aC _))
 cases ha:z.cps.all (· < 128)
 ·refine wpAny_pyIter_wide ha ⟨s1.heap.objs.size,[s1.heap.objs.size],_,_,H1,rfl,I1.kept (t':=s1.toks) λb o e=>aJ _ e,AF _ "str_iterator" z t (λA hA=>Walks.strWide hA _ z t) (λA i s Q E st hQ=>wpAny_pyIter_striter_wide st hQ),⟨_,bx _ rfl,rfl,rfl⟩,fp,q⟩
 ·refine wpAny_pyIter_ascii ha ⟨s1.heap.objs.size,[s1.heap.objs.size],_,_,H1,rfl,I1.kept (t':=s1.toks) λb o e=>aJ _ e,AF _ "str_ascii_iterator" z t (λA hA=>Walks.strAscii hA _ z t) (λA i s Q E st hQ=>wpAny_pyIter_striter_ascii st hQ),⟨_,bx _ rfl,rfl,rfl⟩,fp,q⟩
end
section
variable{X:Cx}
theorem DT:OpR X (aU .LtE) (λx y H Q=>∃i j,x=.str i/\y=.str j/\Q (.bl (!decide (j.cps.toList<i.cps.toList))) H):=by intro pins s σ H x y v u Q I rx ry h;obtain⟨i,j,rfl,rfl,q⟩:=h;obtain⟨t,rfl⟩:=rx;obtain⟨t',rfl⟩:=ry;exact PySem.P.le_str (ou I q rfl)
theorem ES(hc:X.calm=true):pR X (.builtin "all") (λxs H Q=>∃(p:Addr) (bs:List Bool),xs=[.ref p]/\SqL X.K H p (bs.map V.bl)/\Q (.bl (bs.all id)) H):=by
 intro pins s σ H xs us Q I r h;obtain⟨p,bs,rfl,hq,q⟩:=h;obtain⟨u,rfl,ru⟩:=vals1 r;cases ru;obtain⟨its,rv,pl,hz⟩:=I.list hq;have hlt:p<s.heap.objs.size:=by obtain⟨o,ho,_⟩:=pl.isList;exact aF ho
 have hl:bs.length=its.length:=by have:=rv.length;rw[ai]at this;exact this
 refine call_all_walk (fE pl.isList ⟨s.heap.objs.size,_,_,_,_,_,λi=>(bs[i]?).getD true,rfl,gG (show X.A.in1.handled=none from I.ok.hd hc) _ p (aR hlt) its.toArray,⟨⟨_,bx _ rfl,rfl,rfl⟩,?_⟩,?_,λh' tk hk=>?_⟩)
 ·exact pl.isList.at λo e=>aJ _ e
 ·intro i v s' Q' E' hv hQ';have hv':its[i]?=some v:=by simpa using hv
  have hi:i<its.length:=(bo.mp hv').1;have hb:(bs.map V.bl)[i]?=some (.bl (bs[i]'(by omega))):=by simp[show i<bs.length by omega]
  obtain⟨u,hu,ru⟩:=rv.get hb;rw[hv']at hu;cases hu;cases ru;refine cn ?_;have e:(bs[i]?).getD true=bs[i]'(by omega):=by simp[show i<bs.length by omega]
  rw[<-e];exact hQ'
 ·refine⟨.bl (bs.all id),H,?_,?_,q⟩
  ·exact I.kept (t':=tk) λb o e=>hk b o (by simp;exact aR (aF e)) (aJ _ e)
  ·show Value.bool _=Value.bool _;congr 1;rw[aQ,<- hl];rw[dB];simp only[aw,bA,id];constructor
   ·intro hh b hb;obtain⟨i,hi,rfl⟩:=dQ.mp hb;have:=hh i hi;simpa [hi]using this
   ·intro hh i hi;simp only[aS hi,j9];exact hh _ (dS hi)
end
inductive Dq where
 |non|bl (b:Bool)|int (i:Int)|str (x:Str)|tup (ds:List Dq)|lst (ds:List Dq)
mutual
def Rep(K:aj)(H:Hp):Dq->V->Prop
 |.non,v=>v=.non
 |.bl b,v=>v=.bl b
 |.int i,v=>v=.int i
 |.str x,v=>v=.str x
 |.tup ds,v=>∃a xs,v=.ref a/\SqT K H a xs/\nM K H ds xs
 |.lst ds,v=>∃a xs,v=.ref a/\SqL K H a xs/\nM K H ds xs
def nM(K:aj)(H:Hp):List Dq->List V->Prop
 |[],xs=>xs=[]
 |d::ds,xs=>∃v r,xs=v::r/\Rep K H d v/\nM K H ds r
end
mutual
def eqD:Dq->Dq->Bool
 |.non,.non=>true
 |.bl a,.bl b=>a==b
 |.bl a,.int b=>(if a then 1 else 0)==b
 |.int a,.bl b=>a==(if b then 1 else 0)
 |.int a,.int b=>a==b
 |.str a,.str b=>a==b
 |.tup a,.tup b=>sT a b
 |.lst a,.lst b=>sT a b
 |_,_=>false
def sT:List Dq->List Dq->Bool
 |[],[]=>true
 |a::r,b::q=>eqD a b&&sT r q
 |_,_=>false
end
mutual
def dpt:Dq->Nat
 |.tup ds=>pW ds+1
 |.lst ds=>pW ds+1
 |_=>0
def pW:List Dq->Nat
 |[]=>0
 |d::r=>max (dpt d) (pW r)
end
mutual
theorem ET:∀d:Dq,eqD d d=true
 |.non=>by unfold eqD;rfl
 |.bl b=>by unfold eqD;simp
 |.int i=>by unfold eqD;simp
 |.str x=>by unfold eqD;simp
 |.tup ds=>by unfold eqD;exact vW ds
 |.lst ds=>by unfold eqD;exact vW ds
theorem vW:∀ds:List Dq,sT ds ds=true
 |[]=>by unfold sT;rfl
 |d::r=>by unfold sT;rw[ET d,vW r];rfl
end
theorem nL{K:aj}{H:Hp}:∀{ds:List Dq} {xs:List V},nM K H ds xs->ds.length=xs.length
 |[],xs,h=>by unfold nM at h;subst h;rfl
 |d::ds,xs,h=>by unfold nM at h;obtain⟨v,r,rfl,_,h2⟩:=h;rw[aE,aE,nL h2]
def eAt(ds ds':List Dq)(j:Nat):Bool:=match ds[j]?,ds'[j]? with
 |some a,some b=>eqD a b
 |_,_=>true
theorem xM:∀(ds ds':List Dq),sT ds ds'=true ↔ ds.length=ds'.length/\∀j,j<ds.length->eAt ds ds' j=true
 |[],[]=>by simp[sT]
 |[],b::q=>by simp[sT]
 |a::r,[]=>by simp[sT]
 |a::r,b::q=>by
  have ih:=xM r q;unfold sT;rw[aA,ih,aE,aE];constructor
  ·rintro⟨h1,h2,h3⟩;refine⟨by omega,λj hj=>?_⟩;cases j with
   |zero=>exact h1
   |succ j=>exact h3 j (by omega)
  ·rintro⟨h1,h2⟩;exact⟨h2 0 (by omega),by omega,λj hj=>h2 (j+1) (by omega)⟩
variable{ds ds':List Dq}
theorem sU{n m:Nat}(hn:ds.length=n)(hm:ds'.length=m):((aO (min n m)).all (eAt ds ds')&&n==m)=sT ds ds':=by
 rw[dB,xM,aA,aw];subst hn hm;constructor
 ·rintro⟨h1,h2⟩;have e:ds.length=ds'.length:=by simpa using h2
  exact⟨e,λj hj=>h1 j (bA.mpr (by omega))⟩
 ·rintro⟨e,h⟩;exact⟨λj hj=>h j (by have:=bA.mp hj;omega),by simpa using e⟩
theorem tZ{n:Nat}(hn:ds.length=n)(hm:ds'.length=n):(aO n).all (eAt ds ds')=sT ds ds':=by rw[<-sU hn hm];simp
theorem xN(h:ds.length≠ds'.length):sT ds ds'=false:=by
 cases e:sT ds ds' with
 |false=>rfl
 |true=>exact ak ((xM ds ds').mp e).1 h
section
variable{X:Cx}{pins:List (Addr×Obj)}{σ:St}{H:Hp}{s:ae}
theorem Jy(I:Inv X pins σ H s){a:Addr}{xs ys:List V}(h:SqL X.K H a xs)(h':SqT X.K H a ys):False:=by obtain⟨its,_,p,_⟩:=I.list h;obtain⟨its',_,p',_⟩:=I.tuple h';exact SeqAt.ne_of_list_tuple p.isList (show s.heap.IsTuple a its'.toArray from p') rfl
mutual
theorem xO(I:Inv X pins σ H s):∀(d d':Dq) (v:V),Rep X.K H d v->Rep X.K H d' v->eqD d d'=true
 |.non,d',v,h,h'=>by unfold Rep at h;subst h;cases d'<;>unfold Rep at h'<;>first|rfl|(exact nomatch h')|(obtain⟨_,_,e,_⟩:=h';exact nomatch e)
 |.bl b,d',v,h,h'=>by unfold Rep at h;subst h;cases d'<;>unfold Rep at h'<;>first|(obtain⟨_,_,e,_⟩:=h';cases e)|(cases h'<;>simp[eqD])
 |.int b,d',v,h,h'=>by unfold Rep at h;subst h;cases d'<;>unfold Rep at h'<;>first|(obtain⟨_,_,e,_⟩:=h';cases e)|(cases h'<;>simp[eqD])
 |.str b,d',v,h,h'=>by unfold Rep at h;subst h;cases d'<;>unfold Rep at h'<;>first|(obtain⟨_,_,e,_⟩:=h';cases e)|(cases h'<;>simp[eqD])
 |.tup ds,d',v,h,h'=>by
  unfold Rep at h;obtain⟨a,xs,rfl,hq,hr⟩:=h;cases d' with
  |tup ds'=>unfold Rep at h';obtain⟨a',xs',e,hq',hr'⟩:=h';cases e;have ex:=I.tuple_inj hq hq';subst ex;unfold eqD;exact vX I ds ds' xs hr hr'
  |lst ds'=>unfold Rep at h';obtain⟨a',xs',e,hq',hr'⟩:=h';cases e;exact(Jy I hq' hq).elim
  |_=>unfold Rep at h';exact nomatch h'
 |.lst ds,d',v,h,h'=>by
  unfold Rep at h;obtain⟨a,xs,rfl,hq,hr⟩:=h;cases d' with
  |lst ds'=>unfold Rep at h';obtain⟨a',xs',e,hq',hr'⟩:=h';cases e;have ex:=I.list_inj hq hq';subst ex;unfold eqD;exact vX I ds ds' xs hr hr'
  |tup ds'=>unfold Rep at h';obtain⟨a',xs',e,hq',hr'⟩:=h';cases e;exact(Jy I hq hq').elim
  |_=>unfold Rep at h';exact nomatch h'
theorem vX(I:Inv X pins σ H s):∀(ds ds':List Dq) (xs:List V),nM X.K H ds xs->nM X.K H ds' xs->sT ds ds'=true
 |[],ds',xs,h,h'=>by
  unfold nM at h;subst h;cases ds' with
  |nil=>rfl
  |cons d r=>unfold nM at h';obtain⟨_,_,e,_⟩:=h';exact nomatch e
 |d::ds,ds',xs,h,h'=>by
  unfold nM at h;obtain⟨v,r,rfl,h1,h2⟩:=h;cases ds' with
  |nil=>unfold nM at h';exact nomatch h'
  |cons d' r'=>unfold nM at h';obtain⟨v',q,e,h1',h2'⟩:=h';cases e;unfold sT;rw[xO I d d' v h1 h1',vX I ds r' r h2 h2'];rfl
end
mutual
theorem KJ(I:Inv X pins σ H s):∀(d d':Dq) (x y:V) (u v:aa) (A:ay),Rep X.K H d x->Rep X.K H d' y->RelV x u->RelV y v->A.units+dpt d+dpt d'<cLine->gE A s u v (eqD d d')
 |.tup ds,d',x,y,u,v,A,hx,hy,ru,rv,hu=>by
  unfold Rep at hx;obtain⟨a,xs,rfl,hq,hr⟩:=hx;cases ru;obtain⟨its,rx,p,_⟩:=I.tuple hq;have p:s.heap.IsTuple a its.toArray:=p;cases d' with
  |non=>unfold Rep at hy;subst hy;cases rv;exact mm p (by omega)
  |bl b=>unfold Rep at hy;subst hy;cases rv;exact mr b p (by omega)
  |int b=>unfold Rep at hy;subst hy;obtain⟨t,rfl⟩:=rv;exact mM b t p (by omega)
  |str b=>unfold Rep at hy;subst hy;obtain⟨t,rfl⟩:=rv;exact mO b t p (by omega)
  |lst ds'=>unfold Rep at hy;obtain⟨b,ys,rfl,hq',hr'⟩:=hy;cases rv;obtain⟨its',ry,p',_⟩:=I.list hq';exact mw p p'.isList (by omega)
  |tup ds'=>
   have hy0:=hy;unfold Rep at hy;obtain⟨b,ys,rfl,hq',hr'⟩:=hy;cases rv;obtain⟨its',ry,p',_⟩:=I.tuple hq';have p':s.heap.IsTuple b its'.toArray:=p';by_cases hab:a=b
   ·subst hab;have e:eqD (.tup ds) (.tup ds')=true:=xO I _ _ (.ref a) (by unfold Rep;exact⟨a,xs,rfl,hq,hr⟩) hy0;rw[e];exact iy _
   ·have hd:dpt (.tup ds)=pW ds+1:=by rw[dpt]
    have hd':dpt (.tup ds')=pW ds'+1:=by rw[dpt]
    have q:=nE (A:=A) (e:=eAt ds ds') p p' (by omega) λj h1 h2=>by have z:=sV I ds ds' xs ys its its' A.in1 hr hr' rx ry (by show A.units+1+pW ds+pW ds'<cLine;omega) j (by simpa using h1) (by simpa using h2);simpa using z
    rw[sU (by rw[nL hr,rx.length];simp) (by rw[nL hr',ry.length];simp)]at q;exact ie hab (by unfold eqD;exact q)
 |.lst ds,d',x,y,u,v,A,hx,hy,ru,rv,hu=>by
  unfold Rep at hx;obtain⟨a,xs,rfl,hq,hr⟩:=hx;cases ru;obtain⟨its,rx,p,_⟩:=I.list hq;have p:=p.isList;cases d' with
  |non=>unfold Rep at hy;subst hy;cases rv;exact mP p (by omega)
  |bl b=>unfold Rep at hy;subst hy;cases rv;exact mQ b p (by omega)
  |int b=>unfold Rep at hy;subst hy;obtain⟨t,rfl⟩:=rv;exact m8 b t p (by omega)
  |str b=>unfold Rep at hy;subst hy;obtain⟨t,rfl⟩:=rv;exact m9 b t p (by omega)
  |tup ds'=>unfold Rep at hy;obtain⟨b,ys,rfl,hq',hr'⟩:=hy;cases rv;obtain⟨its',ry,p',_⟩:=I.tuple hq';exact my p (show s.heap.IsTuple b its'.toArray from p') (by omega)
  |lst ds'=>
   have hy0:=hy;unfold Rep at hy;obtain⟨b,ys,rfl,hq',hr'⟩:=hy;cases rv;obtain⟨its',ry,p',_⟩:=I.list hq';have p':=p'.isList;by_cases hab:a=b
   ·subst hab;have e:eqD (.lst ds) (.lst ds')=true:=xO I _ _ (.ref a) (by unfold Rep;exact⟨a,xs,rfl,hq,hr⟩) hy0;rw[e];exact iy _
   ·have hd:dpt (.lst ds)=pW ds+1:=by rw[dpt]
    have hd':dpt (.lst ds')=pW ds'+1:=by rw[dpt]
    by_cases hl:its.length=its'.length
    ·have q:=nF (A:=A) (e:=eAt ds ds') p p' (by simpa using hl) (by omega) λj h1 h2=>by have z:=sV I ds ds' xs ys its its' A.in1 hr hr' rx ry (by show A.units+1+pW ds+pW ds'<cLine;omega) j (by simpa using h1) (by simpa using h2);simpa using z
     rw[tZ (by rw[nL hr,rx.length];simp) (by rw[nL hr',ry.length,<- hl];simp)]at q;exact ie hab (by unfold eqD;exact q)
    ·have e:eqD (.lst ds) (.lst ds')=false:=by unfold eqD;exact xN (by rw[nL hr,nL hr',rx.length,ry.length];exact hl)
     rw[e];exact ie hab (mj p p' (by simpa using hl) (by omega))
 |.non,d',x,y,u,v,A,hx,hy,ru,rv,hu=>by
  unfold Rep at hx;subst hx;cases d' with
  |tup ds'=>unfold Rep at hy;obtain⟨b,ys,rfl,hq',hr'⟩:=hy;cases rv;cases ru;obtain⟨its',ry,p',_⟩:=I.tuple hq';exact mD (show s.heap.IsTuple b its'.toArray from p') (by omega)
  |lst ds'=>unfold Rep at hy;obtain⟨b,ys,rfl,hq',hr'⟩:=hy;cases rv;cases ru;obtain⟨its',ry,p',_⟩:=I.list hq';exact mR p'.isList (by omega)
  |_=>unfold Rep at hy;subst hy;exact xG ru rv rfl rfl
 |.bl c,d',x,y,u,v,A,hx,hy,ru,rv,hu=>by
  unfold Rep at hx;subst hx;cases d' with
  |tup ds'=>unfold Rep at hy;obtain⟨b,ys,rfl,hq',hr'⟩:=hy;cases rv;cases ru;obtain⟨its',ry,p',_⟩:=I.tuple hq';exact mE c (show s.heap.IsTuple b its'.toArray from p') (by omega)
  |lst ds'=>unfold Rep at hy;obtain⟨b,ys,rfl,hq',hr'⟩:=hy;cases rv;cases ru;obtain⟨its',ry,p',_⟩:=I.list hq';exact mS c p'.isList (by omega)
  |_=>unfold Rep at hy;subst hy;exact xG ru rv rfl rfl
 |.int c,d',x,y,u,v,A,hx,hy,ru,rv,hu=>by
  unfold Rep at hx;subst hx;cases d' with
  |tup ds'=>unfold Rep at hy;obtain⟨b,ys,rfl,hq',hr'⟩:=hy;cases rv;obtain⟨t,rfl⟩:=ru;obtain⟨its',ry,p',_⟩:=I.tuple hq';exact mT c t (show s.heap.IsTuple b its'.toArray from p') (by omega)
  |lst ds'=>unfold Rep at hy;obtain⟨b,ys,rfl,hq',hr'⟩:=hy;cases rv;obtain⟨t,rfl⟩:=ru;obtain⟨its',ry,p',_⟩:=I.list hq';exact ng c t p'.isList (by omega)
  |_=>unfold Rep at hy;subst hy;exact xG ru rv rfl rfl
 |.str c,d',x,y,u,v,A,hx,hy,ru,rv,hu=>by
  unfold Rep at hx;subst hx;cases d' with
  |tup ds'=>unfold Rep at hy;obtain⟨b,ys,rfl,hq',hr'⟩:=hy;cases rv;obtain⟨t,rfl⟩:=ru;obtain⟨its',ry,p',_⟩:=I.tuple hq';exact mV c t (show s.heap.IsTuple b its'.toArray from p') (by omega)
  |lst ds'=>unfold Rep at hy;obtain⟨b,ys,rfl,hq',hr'⟩:=hy;cases rv;obtain⟨t,rfl⟩:=ru;obtain⟨its',ry,p',_⟩:=I.list hq';exact nh c t p'.isList (by omega)
  |_=>unfold Rep at hy;subst hy;exact xG ru rv rfl rfl
theorem sV(I:Inv X pins σ H s):∀(ds ds':List Dq) (xs ys:List V) (us vs:List aa) (A:ay),nM X.K H ds xs->nM X.K H ds' ys->Vals xs us->Vals ys vs->A.units+pW ds+pW ds'<cLine->
  ∀(j:Nat) (h1:j<us.length) (h2:j<vs.length),gE A s us[j] vs[j] (eAt ds ds' j)
 |[],ds',xs,ys,us,vs,A,hx,hy,ru,rv,hu,j,h1,h2=>by
  have:=nL hx;have:=ru.length;simp only[dE]at *
  omega
 |d::ds,[],xs,ys,us,vs,A,hx,hy,ru,rv,hu,j,h1,h2=>by
  have:=nL hy;have:=rv.length;simp only[dE]at *
  omega
 |d::ds,d'::ds',xs,ys,us,vs,A,hx,hy,ru,rv,hu,j,h1,h2=>by
  unfold nM at hx hy;obtain⟨x,xr,rfl,hx1,hx2⟩:=hx;obtain⟨y,yr,rfl,hy1,hy2⟩:=hy;have e1:pW (d::ds)=max (dpt d) (pW ds):=by rw[pW]
  have e2:pW (d'::ds')=max (dpt d') (pW ds'):=by rw[pW]
  cases ru with
  |cons r1 r2=>
   cases rv with
   |cons q1 q2=>
    cases j with
    |zero=>exact KJ I d d' x y _ _ A hx1 hy1 r1 q1 (by omega)
    |succ j=>exact sV I ds ds' xr yr _ _ A hx2 hy2 r2 q2 (by omega) j (by simpa using h1) (by simpa using h2)
end
def Jz:Dq->Dq->Bool
 |.tup _,.tup _=>true
 |.lst _,.lst _=>true
 |_,_=>false
def BC(K:aj)(neg:Bool):R2:=λx y H Q=>∃d d',Rep K H d x/\Rep K H d' y/\Jz d d'=true/\dpt d<=20/\dpt d'<=20/\Q (.bl (if neg then !eqD d d' else eqD d d')) H
theorem KL(hu:X.A.units+64<cLine):OpR X (aU .Eq) (BC X.K false):=by
 intro pins s σ H x y u v Q I ru rv h;obtain⟨d,d',hx,hy,hd,h1,h2,q⟩:=h;cases d with
 |tup ds=>
  cases d' with
  |tup ds'=>
   have hd1:dpt (.tup ds)=pW ds+1:=by rw[dpt]
   have hd2:dpt (.tup ds')=pW ds'+1:=by rw[dpt]
   unfold Rep at hx hy;obtain⟨a,xs,rfl,hq,hr⟩:=hx;obtain⟨b,ys,rfl,hq',hr'⟩:=hy;cases ru;cases rv;obtain⟨its,rx,p,_⟩:=I.tuple hq;obtain⟨its',ry,p',_⟩:=I.tuple hq';refine SeqAt.eq_tupleAt (e:=eAt ds ds') (show s.heap.IsTuple a its.toArray from p) (show s.heap.IsTuple b its'.toArray from p') (by omega) (λj h1 h2=>?_) ?_
   ·have z:=sV I ds ds' xs ys its its' X.A.in1 hr hr' rx ry (by show X.A.units+1+pW ds+pW ds'<cLine;omega) j (by simpa using h1) (by simpa using h2);simpa using z
   ·rw[sU (by rw[nL hr,rx.length];simp) (by rw[nL hr',ry.length];simp)];unfold eqD at q;exact ou I q rfl
  |_=>exact nomatch hd
 |lst ds=>
  cases d' with
  |lst ds'=>
   have hd1:dpt (.lst ds)=pW ds+1:=by rw[dpt]
   have hd2:dpt (.lst ds')=pW ds'+1:=by rw[dpt]
   unfold Rep at hx hy;obtain⟨a,xs,rfl,hq,hr⟩:=hx;obtain⟨b,ys,rfl,hq',hr'⟩:=hy;cases ru;cases rv;obtain⟨its,rx,p,_⟩:=I.list hq;obtain⟨its',ry,p',_⟩:=I.list hq';by_cases hl:its.length=its'.length
   ·refine SeqAt.eq_listAt (e:=eAt ds ds') p.isList p'.isList (by simpa using hl) (by omega) (λj h1 h2=>?_) ?_
    ·have z:=sV I ds ds' xs ys its its' X.A.in1 hr hr' rx ry (by show X.A.units+1+pW ds+pW ds'<cLine;omega) j (by simpa using h1) (by simpa using h2);simpa using z
    ·rw[tZ (by rw[nL hr,rx.length];simp) (by rw[nL hr',ry.length,<- hl];simp)];unfold eqD at q;exact ou I q rfl
   ·refine SeqAt.eq_list_lengthsAt p.isList p'.isList (by simpa using hl) (by omega) ?_;have e:sT ds ds'=false:=xN (by rw[nL hr,nL hr',rx.length,ry.length];exact hl);unfold eqD at q;rw[e]at q;exact ou I q rfl
  |_=>exact nomatch hd
 |_=>exact nomatch hd
theorem KM(hu:X.A.units+64<cLine):OpR X (aU .NotEq) (BC X.K true):=by
 intro pins s σ H x y u v Q I ru rv h;obtain⟨d,d',hx,hy,hd,h1,h2,q⟩:=h;cases d with
 |tup ds=>
  cases d' with
  |tup ds'=>
   have hd1:dpt (.tup ds)=pW ds+1:=by rw[dpt]
   have hd2:dpt (.tup ds')=pW ds'+1:=by rw[dpt]
   unfold Rep at hx hy;obtain⟨a,xs,rfl,hq,hr⟩:=hx;obtain⟨b,ys,rfl,hq',hr'⟩:=hy;cases ru;cases rv;obtain⟨its,rx,p,_⟩:=I.tuple hq;obtain⟨its',ry,p',_⟩:=I.tuple hq';have w:=ni (A:=X.A) (e:=eAt ds ds') (show s.heap.IsTuple a its.toArray from p) (show s.heap.IsTuple b its'.toArray from p') (by omega) (λj h1 h2=>by
    have z:=sV I ds ds' xs ys its its' X.A.in1 hr hr' rx ry (by show X.A.units+1+pW ds+pW ds'<cLine;omega) j (by simpa using h1) (by simpa using h2);simpa using z)
   rw[sU (by rw[nL hr,rx.length];simp) (by rw[nL hr',ry.length];simp)]at w;unfold eqD at q;exact w X.prog X.w X.xe _ (ou I q rfl)
  |_=>exact nomatch hd
 |lst ds=>
  cases d' with
  |lst ds'=>
   have hd1:dpt (.lst ds)=pW ds+1:=by rw[dpt]
   have hd2:dpt (.lst ds')=pW ds'+1:=by rw[dpt]
   unfold Rep at hx hy;obtain⟨a,xs,rfl,hq,hr⟩:=hx;obtain⟨b,ys,rfl,hq',hr'⟩:=hy;cases ru;cases rv;obtain⟨its,rx,p,_⟩:=I.list hq;obtain⟨its',ry,p',_⟩:=I.list hq';by_cases hl:its.length=its'.length
   ·have w:=ny (A:=X.A) (e:=eAt ds ds') p.isList p'.isList (by simpa using hl) (by omega) (λj h1 h2=>by
     have z:=sV I ds ds' xs ys its its' X.A.in1 hr hr' rx ry (by show X.A.units+1+pW ds+pW ds'<cLine;omega) j (by simpa using h1) (by simpa using h2);simpa using z)
    rw[tZ (by rw[nL hr,rx.length];simp) (by rw[nL hr',ry.length,<- hl];simp)]at w;unfold eqD at q;exact w X.prog X.w X.xe _ (ou I q rfl)
   ·have e:sT ds ds'=false:=xN (by rw[nL hr,nL hr',rx.length,ry.length];exact hl);unfold eqD at q;rw[e]at q;exact lE p.isList p'.isList (by simpa using hl) (by omega) X.prog X.w X.xe _ (ou I q rfl)
  |_=>exact nomatch hd
 |_=>exact nomatch hd
end
inductive StrsAre:List Expr->List V->Prop
 |nil:StrsAre [] []
 |cons {x:Str} {j:Nat} {pos:Pos} {es:List Expr} {vs:List V} (h:StrsAre es vs):StrsAre (.Constant (.str x) j pos::es) (.str x::vs)
theorem qQ{n:Nat}(h:n<=1000):n<=az:=gr (uy h)
theorem nR.new{p:Addr}{H H1:Hp}(x:nR H H1)(hp:H1 p=none)(o:HO):nR H (upd H1 p o):=λb u e=>by have z:=x b u e;rw[nT (pB z hp)];exact z
structure DU(K:aj)(x qual:Str)(st:Stmt)(f:Addr)(fd:bu)(T:Addr):Prop where
 ex:∃(oc:aa) (od:Option Addr) (kV doc pm:aa) (an:Option Addr) (cdv ct:aa) (osl:Array (Option aa)),
  fd=dq x qual (qE st) (oi st) (nV st) (.ref T) kV doc pm an cdv ct/\K.lookup f=some ⟨oc,od,.func fd,osl⟩/\eY K cdv qual=true
 kp:cG K (.ref f)=true
variable{qual:Str}{f T:Addr}{fd:bu}{ps:List Str}
section
variable{P:aq}{w:ao}{K:aj}{mg:Str->Option aa}{base:Heap}
theorem DU.ok{st:Stmt}{k:Nat}{sp:Sp}(F:DU K x qual st f fd T)(S:pJ N ps (nV st))(len:∀vs H Q E,sp vs H Q E->vs.length=ps.length)
  (hbody:∀(cdv:aa) (A:ay) (outer:List Env) (s:ae) (H:Hp) (vs:List V) (Q:VK) (E:XK),pf k (A.deeper (envOfC qual (nV st) s.heap.objs.size f cdv))->sp vs H Q E->
   ∃t,PSs (zK CX0 P w K mg base N qual (nV st) f cdv A outer s H E).nox (oi st) t/\t { nx:=λ_ H'=>Q .non H',rt:=Q } (L2.start N vs) H):qD P w K mg base CX0 (k+1) f fd ps sp:=by
 obtain⟨oc,od,kV,doc,pm,an,cdv,ct,osl,rfl,lk,hcd⟩:=F.ex;refine Au lk hcd S len λA outer s H vs Q E hr hsp=>?_;obtain⟨t,h,q⟩:=hbody cdv A outer s H vs Q E hr hsp;exact⟨t,h.nox,q⟩
end
theorem DU.binds{K:aj}{st:Stmt}{ds:List aa}{o:Obj}{items:Array aa}{n:Nat}(F:DU K x qual st f fd T)(ho:K.lookup T=some o)(hs:o.data=.seq items n)
  (h:∀(kV doc pm:aa) (an:Option Addr) (cdv ct:aa) (us:List aa),us.length=ps.length - ds.length->∃k,bindArgs (dq x qual (qE st) (oi st) (nV st) (.ref T) kV doc pm an cdv ct) ⟨us,[]⟩=seqItems? (.ref T)>>=k/\k (some items)=pure (ps.zip (us++ds))):Binds K fd ps ds:=by
 obtain⟨oc,od,kV,doc,pm,an,cdv,ct,osl,rfl,lk,hcd⟩:=F.ex;intro s us KX hl;obtain⟨k,h1,h2⟩:=h kV doc pm an cdv ct us (by rw[aB]at hl;omega);exact BindsTo.of_defaults (k:=k) rfl (KX _ _ ho) hs h1 h2
section
variable{X:Cx}(K:aj)
theorem EU(hK:X.K=K:=by rfl):IxR X (He K):=by subst hK;exact Ck
theorem AG(hl:PE X l tl)(hK:X.K=K:=by rfl):PI X tg l (Ew K tl):=by subst hK;exact GU hl
theorem Ht(hl:PE X l tl)(hK:X.K=K:=by rfl):PI X tg l (Kl K tl):=by subst hK;exact Km hl
theorem Hu{es:List Expr}{k:Nat}{t:TGs}{n:Nat}(hc:X.calm=true)(h:PGs X es t)(hn:(bU es X.env).length=n:=by rfl)(hst:(bU es X.env).findIdx? (·.1)=none:=by rfl)(hK:X.K=K:=by rfl):PG X (.Tuple es k pos) (Kh K n t):=by subst hK;exact Ki hc h hn hst
variable{o e:Expr}{es:List Expr}{to:TE}{t:TA}{name:Str}{apos cpos:Pos}{T id:String}{r:V->List V->Hp->VK->Prop}
theorem EV(pa:i4 T)(slot:Slot T name id)(hty:typeOf (.builtin id)=pure (.type "method_descriptor"))(hm:MtR X id r)(ho:PE X o to)(ha:PA X (e::es) t)
  (hbase:d6 o name X.env (eval o X.env)=eval o X.env:=by rfl)
  (hfew:((aX cpos (ar (e::es) X.env)).all (λx=>!x.1)&&(backToKw cpos (dh [] X.env)).all (λx=>x.1.isSome)
   && decide ((e::es).length+([]:List fj).length+(if ([]:List fj).isEmpty then 0 else 1)<30))=true:=by rfl)
  (hline:(apos.endLine==cpos.line)=true:=by rfl) (hs:ar (e::es) X.env=(false,eval e X.env)::ar es X.env:=by rfl) (hplain:(aX cpos (ar es X.env)).any (·.1)=false:=by rfl) (hK:X.K=K:=by rfl):
  PE X (.Call (.Attribute o name apos) (e::es) [] cpos) (tBM K T r to t):=by subst hK;exact NQ pa slot hty hm ho ha hbase hfew hline hs hplain
end
end L3
namespace L2
open PySem PySem.Spec PyProof.Rows
variable{a:Addr}
section
variable{X:Cx}{pins:List (Addr×Obj)}{σ:St}{H:Hp}{s:ae}
theorem sH{H:Hp}{c:Addr}{u v:HO}(e:H a=some u)(q:H c=some v)(d:u≠v)(n:HO):upd H a n c=some v:=by rw[nT (λz=>by subst z;rw[e]at q;exact d (bT q))];exact q
theorem Inv.freeze{kvs:List (Key×V)}(I:Inv X pins σ H s)(e:H a=some (.dK kvs)):∃o,Inv X pins σ (upd H a (.frz o (.dK kvs))) s:=by
 obtain⟨z,y,vs,r,ob,es,ep,e1,c⟩:=(show o8 X.prog X.w H s.heap a (.dK kvs) from I.hok a _ e);refine⟨ob,?_⟩;have I':=I.step (H':=upd H a (.frz ob (.dK kvs))) (h':=s.heap) (g':=s.gens) (d':=s.drawn) (t':=s.toks) (ch:=[]) (λ_ z=>nomatch z) (λb o _ _ _ q _=>q) (λb o _ _ _ q _=>⟨o.slots,q⟩)
  (λb o _ _ n=>by rw[nT (λz=>by subst z;rw[e]at n;cases n)];exact n) (λb o _ q=>⟨o,q⟩) (λb xs q=>sH e q (λz=>nomatch z) _) (λb o u q=>sH e q (λz=>nomatch z) _)
  (λb ps q=>⟨#[],by rw[sH e q (λz=>nomatch z) _];simp⟩) (λm q=>q) ?_ I.bare
 ·obtain⟨h,g,d,t,os⟩:=s;exact I'
 ·intro b u q;have st:∀{b:Addr} {u:HO},o8 X.prog X.w H s.heap b u->o8 X.prog X.w (upd H a (.frz ob (.dK kvs))) s.heap b u:=λ{b u} x=>x.stay (λ_ _ _ q=>q) (λc q=>sH e q (λz=>nomatch z) _) λc xs q=>sH e q (λz=>nomatch z) _
  by_cases hb:b=a
  ·subst hb;rw[nW]at q;cases q;exact⟨e1,st (I.hok b _ e)⟩
  ·rw[nT hb]at q;exact st (I.hok b u q)
theorem PE.ghost{e:Expr}{t:TE}(h:PE X e t):PE X e (λσ H Q=>t σ H λx H1=>Q x H1\/∃a kvs,H1 a=some (.dK kvs)/\∀o,Q x (upd H1 a (.frz o (.dK kvs)))):=λpins s σ H Q I hq=>
 thn (h pins s σ H _ I hq) λu s1 ⟨x,H1,I1,r1,q1⟩=>by
  rcases q1 with q|⟨a,kvs,e,q⟩
  ·exact⟨x,H1,I1,r1,q⟩
  ·obtain⟨o,I2⟩:=I1.freeze e;exact⟨x,_,I2,r1,q o⟩
end
end L2
namespace L4
open PySem PySem.Spec PyProof.Rows L2 L3
abbrev St:=L2.St
inductive D where
 |non|bl (b:Bool)|int (i:Int)|str (x:Str)
 |tup (ds:List D)|lst (ds:List D)
 |fzl (ds:List D)
 |obj (c:Nat) (ns:List Str) (ds:List D)
 |dic (ks:List Key) (ds:List D)
structure Bg where
 K:aj
 ca:Nat->Addr
mutual
def Rep(G:Bg)(H:Hp):D->V->Prop
 |.non,v=>v=.non
 |.bl b,v=>v=.bl b
 |.int i,v=>v=.int i
 |.str x,v=>v=.str x
 |.tup ds,v=>∃a xs,v=.ref a/\SqT G.K H a xs/\nM G H ds xs
 |.lst ds,v=>∃a xs,v=.ref a/\H a=some (.lst xs)/\nM G H ds xs
 |.fzl ds,v=>∃a xs,v=.ref a/\SqL G.K H a xs/\nM G H ds xs
 |.obj c ns ds,v=>∃a dx xs,v=.ref a/\H a=some (.ins (G.ca c) dx (ns.zip xs))/\ns.length=xs.length/\nM G H ds xs
 |.dic ks ds,v=>∃a o xs,v=.ref a/\H a=some (.frz o (.dK (ks.zip xs)))/\ks.length=xs.length/\nM G H ds xs
def nM(G:Bg)(H:Hp):List D->List V->Prop
 |[],xs=>xs=[]
 |d::ds,xs=>∃v r,xs=v::r/\Rep G H d v/\nM G H ds r
end
variable{H':Hp}{a:Addr}{xs:List V}
theorem SqT.mono{K:aj}{H:Hp}(e:nR H H')(h:SqT K H a xs):SqT K H' a xs:=by
 rcases h with (h|⟨o,h⟩)|h
 ·exact .inl (.inl (e _ _ h))
 ·exact .inl (.inr ⟨o,e _ _ h⟩)
 ·exact .inr h
mutual
theorem Rep.mono{G:Bg}{H H':Hp}(e:nR H H'):∀(d:D) (v:V),Rep G H d v->Rep G H' d v
 |.non,v,h=>by unfold Rep at h ⊢;exact h
 |.bl b,v,h=>by unfold Rep at h ⊢;exact h
 |.int i,v,h=>by unfold Rep at h ⊢;exact h
 |.str x,v,h=>by unfold Rep at h ⊢;exact h
 |.tup ds,v,h=>by unfold Rep at h ⊢;obtain⟨a,xs,rfl,h1,h2⟩:=h;exact⟨a,xs,rfl,SqT.mono e h1,nM.mono e ds xs h2⟩
 |.lst ds,v,h=>by unfold Rep at h ⊢;obtain⟨a,xs,rfl,h1,h2⟩:=h;exact⟨a,xs,rfl,e _ _ h1,nM.mono e ds xs h2⟩
 |.fzl ds,v,h=>by unfold Rep at h ⊢;obtain⟨a,xs,rfl,h1,h2⟩:=h;exact⟨a,xs,rfl,e.seq h1,nM.mono e ds xs h2⟩
 |.obj c ns ds,v,h=>by unfold Rep at h ⊢;obtain⟨a,dx,xs,rfl,h1,h2,h3⟩:=h;exact⟨a,dx,xs,rfl,e _ _ h1,h2,nM.mono e ds xs h3⟩
 |.dic ks ds,v,h=>by unfold Rep at h ⊢;obtain⟨a,o,xs,rfl,h1,h2,h3⟩:=h;exact⟨a,o,xs,rfl,e _ _ h1,h2,nM.mono e ds xs h3⟩
theorem nM.mono{G:Bg}{H H':Hp}(e:nR H H'):∀(ds:List D) (xs:List V),nM G H ds xs->nM G H' ds xs
 |[],xs,h=>by unfold nM at h ⊢;exact h
 |d::ds,xs,h=>by unfold nM at h ⊢;obtain⟨v,r,rfl,h1,h2⟩:=h;exact⟨v,r,rfl,Rep.mono e d v h1,nM.mono e ds r h2⟩
end
variable{d:D}{ds:List D}
section
variable{G:Bg}{H:Hp}
theorem ot:nM G H [] []:=by unfold nM;rfl
theorem oB{v:V}(h:Rep G H d v)(r:nM G H ds xs):nM G H (d::ds) (v::xs):=by unfold nM;exact⟨v,xs,rfl,h,r⟩
theorem nL:∀{ds:List D} {xs:List V},nM G H ds xs->ds.length=xs.length
 |[],xs,h=>by unfold nM at h;subst h;rfl
 |d::ds,xs,h=>by unfold nM at h;obtain⟨v,r,rfl,_,h2⟩:=h;rw[aE,aE,nL h2]
theorem pH:∀{ds es:List D} {xs ys:List V},nM G H ds xs->nM G H es ys->nM G H (ds++es) (xs++ys)
 |[],es,xs,ys,h,h'=>by unfold nM at h;subst h;exact h'
 |d::ds,es,xs,ys,h,h'=>by unfold nM at h;obtain⟨v,r,rfl,h1,h2⟩:=h;exact oB h1 (pH h2 h')
theorem ra:∀{ds:List D} {xs:List V} {i:Nat} {d:D},nM G H ds xs->ds[i]?=some d->∃v,xs[i]?=some v/\Rep G H d v
 |[],xs,i,d,h,e=>by simp at e
 |d'::ds,xs,i,d,h,e=>by
  unfold nM at h;obtain⟨v,r,rfl,h1,h2⟩:=h;cases i with
  |zero=>simp at e;subst e;exact⟨v,rfl,h1⟩
  |succ i=>simpa using ra (i:=i) (d:=d) h2 (by simpa using e)
theorem xP:∀{ds:List D} {xs:List V} (i:Nat) {d:D} {v:V},nM G H ds xs->Rep G H d v->nM G H (ds.set i d) (xs.set i v)
 |[],xs,i,d,v,h,e=>by unfold nM at h;subst h;exact ot
 |d'::ds,xs,i,d,v,h,e=>by
  unfold nM at h;obtain⟨v',r,rfl,h1,h2⟩:=h;cases i with
  |zero=>exact oB e h2
  |succ i=>exact oB h1 (xP i h2 e)
theorem y7:∀{ds:List D} {xs:List V} (n:Nat),nM G H ds xs->nM G H (ds.drop n) (xs.drop n)
 |ds,xs,0,h=>h
 |[],xs,n+1,h=>by unfold nM at h;subst h;exact ot
 |d::ds,xs,n+1,h=>by unfold nM at h;obtain⟨v,r,rfl,h1,h2⟩:=h;exact y7 n h2
theorem y8:∀{ds:List D} {xs:List V} (n:Nat),nM G H ds xs->nM G H (ds.take n) (xs.take n)
 |ds,xs,0,h=>ot
 |[],xs,n+1,h=>by unfold nM at h;subst h;exact ot
 |d::ds,xs,n+1,h=>by unfold nM at h;obtain⟨v,r,rfl,h1,h2⟩:=h;exact oB h1 (y8 n h2)
theorem zU(h:SqT G.K H a xs)(r:nM G H ds xs):Rep G H (.tup ds) (.ref a):=by unfold Rep;exact⟨a,xs,rfl,h,r⟩
theorem sW(h:H a=some (.lst xs))(r:nM G H ds xs):Rep G H (.lst ds) (.ref a):=by unfold Rep;exact⟨a,xs,rfl,h,r⟩
theorem pK(i:Int):Rep G H (.int i) (.int i):=by unfold Rep;rfl
theorem qr(i:Bool):Rep G H (.bl i) (.bl i):=by unfold Rep;rfl
theorem vn(i:Str):Rep G H (.str i) (.str i):=by unfold Rep;rfl
theorem vo:Rep G H .non .non:=by unfold Rep;rfl
end
inductive Sl where
 |un
 |im (d:D)
 |ls (ds:List D)
 |pm (ds:List D)
 |dk (ks:List Key) (ds:List D)
 |ob (c:Nat) (ns:List Str) (ds:List D)
def Sl.own:Sl->Bool
 |.ls _=>true
 |.pm _=>true
 |.dk _ _=>true
 |.ob _ _ _=>true
 |_=>false
structure Fr where
 B0:Hp
 B:Hp
 A:List Addr
def yM(G:Bg)(F:Fr)(H0 H:Hp)(o:Option V):Sl->Prop
 |.un=>True
 |.im d=>∃v,o=some v/\Rep G H0 d v
 |.ls ds=>∃a xs,o=some (.ref a)/\H a=some (.lst xs)/\H0 a=none/\F.B a=none/\nM G H0 ds xs
 |.pm ds=>∃a xs,o=some (.ref a)/\H a=some (.lst xs)/\H0 a=none/\a∈F.A/\nM G H0 ds xs
 |.dk ks ds=>∃a xs,o=some (.ref a)/\H a=some (.dK (ks.zip xs))/\H0 a=none/\F.B a=none/\ks.length=xs.length/\nM G H0 ds xs
 |.ob c ns ds=>∃a dx xs,o=some (.ref a)/\H a=some (.ins (G.ca c) dx (ns.zip xs))/\H0 a=none/\a∈F.A/\ns.length=xs.length/\nM G H0 ds xs
structure nY(G:Bg)(F:Fr)(σ:St)(ρ:List Sl)(H0 H:Hp):Prop where
 sub:nR H0 H
 g0:nR F.B0 H0
 keep:∀b o,F.B b=some o->b∉F.A->H b=some o
 fr:∀b o,H0 b=some o->F.B0 b=some o\/F.B b=none
 am:∀a∈F.A,∃o,H a=some o
 len:σ.length=ρ.length
 sl:∀(i:Nat) (s:Sl),ρ[i]?=some s->yM G F H0 H (σ[i]?).join s
 ap:∀(i j:Nat) (s t:Sl) (a:Addr),i≠j->ρ[i]?=some s->ρ[j]?=some t->s.own=true->t.own=true->(σ[i]?).join=some (.ref a)->(σ[j]?).join=some (.ref a)->False
variable{G:Bg}{F:Fr}{H0:Hp}
theorem yM.at{H:Hp}{o:Option V}{s:Sl}(h:yM G F H0 H o s)(e:s.own=true):∃a u,o=some (.ref a)/\H a=some u/\H0 a=none/\(F.B a=none\/a∈F.A):=by
 cases s with
 |un=>cases e
 |im d=>cases e
 |ls ds=>obtain⟨a,xs,h1,h2,h3,h4,_⟩:=h;exact⟨a,_,h1,h2,h3,.inl h4⟩
 |pm ds=>obtain⟨a,xs,h1,h2,h3,h4,_⟩:=h;exact⟨a,_,h1,h2,h3,.inr h4⟩
 |dk ks ds=>obtain⟨a,xs,h1,h2,h3,h4,_⟩:=h;exact⟨a,_,h1,h2,h3,.inl h4⟩
 |ob c ns ds=>obtain⟨a,dx,xs,h1,h2,h3,h4,_⟩:=h;exact⟨a,_,h1,h2,h3,.inr h4⟩
variable{H0':Hp}
theorem yM.grow{H:Hp}{o:Option V}{s:Sl}(h:yM G F H0 H o s)(h0:nR H0 H0')(hk:∀a u,o=some (.ref a)->s.own=true->H a=some u->H' a=some u)
  (hn:∀a u,o=some (.ref a)->s.own=true->H a=some u->H0 a=none->H0' a=none):yM G F H0' H' o s:=by
 cases s with
 |un=>trivial
 |im d=>obtain⟨v,h1,h2⟩:=h;exact⟨v,h1,Rep.mono h0 _ _ h2⟩
 |ls ds=>obtain⟨a,xs,h1,h2,h3,h4,h5⟩:=h;exact⟨a,xs,h1,hk _ _ h1 rfl h2,hn _ _ h1 rfl h2 h3,h4,nM.mono h0 _ _ h5⟩
 |pm ds=>obtain⟨a,xs,h1,h2,h3,h4,h5⟩:=h;exact⟨a,xs,h1,hk _ _ h1 rfl h2,hn _ _ h1 rfl h2 h3,h4,nM.mono h0 _ _ h5⟩
 |dk ks ds=>obtain⟨a,xs,h1,h2,h3,h4,h5,h6⟩:=h;exact⟨a,xs,h1,hk _ _ h1 rfl h2,hn _ _ h1 rfl h2 h3,h4,h5,nM.mono h0 _ _ h6⟩
 |ob c ns ds=>obtain⟨a,dx,xs,h1,h2,h3,h4,h5,h6⟩:=h;exact⟨a,dx,xs,h1,hk _ _ h1 rfl h2,hn _ _ h1 rfl h2 h3,h4,h5,nM.mono h0 _ _ h6⟩
variable{p:Addr}{j:Nat}
section
variable{G:Bg}{F:Fr}{σ:St}{ρ:List Sl}{H0 H H0' H':Hp}
theorem nY.bNone(R:nY G F σ ρ H0 H){b:Addr}(h:H b=none):F.B b=none:=by
 cases e:F.B b with
 |none=>rfl
 |some o=>
  by_cases ha:b∈F.A
  ·obtain⟨xs,q⟩:=R.am b ha;rw[q]at h;cases h
  ·have q:=R.keep b o e ha;rw[q]at h;cases h
theorem nY.grow(R:nY G F σ ρ H0 H)(hs:nR H H')(h0:nR H0 H0')(sub':nR H0' H')(hf:∀b o,H0' b=some o->H0 b=some o\/H b=none):nY G F σ ρ H0' H' where
 sub:=sub'
 g0:=R.g0.trans h0
 keep:=λb o e n=>hs _ _ (R.keep b o e n)
 fr:=λb o e=>by
  rcases hf b o e with q|q
  ·exact R.fr b o q
  ·exact .inr (R.bNone q)
 am:=λa ha=>let ⟨xs,q⟩:=R.am a ha;⟨xs,hs _ _ q⟩
 len:=R.len
 sl:=λi s e=>(R.sl i s e).grow h0 (λa u _ _ q=>hs _ _ q) λa u _ _ q q0=>by
  cases z:H0' a with
  |none=>rfl
  |some o=>
   rcases hf a o z with y|y
   ·rw[y]at q0;cases q0
   ·rw[y]at q;cases q
 ap:=R.ap
theorem og{H:Hp}(hp:H p=none)(o:HO):nR H (upd H p o):=nR.new (nR.refl H) hp o
theorem nY.h0none(R:nY G F σ ρ H0 H)(hp:H p=none):H0 p=none:=by
 cases e:H0 p with
 |none=>rfl
 |some o=>have:=R.sub _ _ e;rw[this]at hp;cases hp
theorem EW{H0 H:Hp}(s:nR H0 H)(p:Addr)(o:HO):nR (upd H0 p o) (upd H p o):=λb u e=>by
 by_cases hb:b=p
 ·subst hb;rw[nW]at e ⊢;exact e
 ·rw[nT hb]at e ⊢;exact s _ _ e
theorem nY.newIm(R:nY G F σ ρ H0 H)(hp:H p=none)(o:HO):nY G F σ ρ (upd H0 p o) (upd H p o):=
 R.grow (og hp o) (og (R.h0none hp) o) (EW R.sub p o) λb u e=>by
  by_cases hb:b=p
  ·subst hb;exact .inr hp
  ·rw[nT hb]at e;exact .inl e
theorem nY.newOwn(R:nY G F σ ρ H0 H)(hp:H p=none)(o:HO):nY G F σ ρ H0 (upd H p o):=
 R.grow (og hp o) (nR.refl _) (λb u e=>by rw[nT (pB (R.sub _ _ e) hp)];exact R.sub _ _ e) λb u e=>.inl e
def Apart(σ:St)(ρ:List Sl)(p:Addr):Prop:=∀(i:Nat) (s:Sl),ρ[i]?=some s->s.own=true->(σ[i]?).join≠some (.ref p)
theorem nY.apart(R:nY G F σ ρ H0 H)(hp:H p=none):Apart σ ρ p:=λi s e so z=>by obtain⟨a,u,h1,h2,_⟩:=(R.sl i s e).at so;rw[z]at h1;cases h1;rw[hp]at h2;cases h2
theorem nY.freeze(R:nY G F σ ρ H0 H){o:HO}(hp:H p=some o)(h0:H0 p=none)(hb:F.B p=none)(ap:Apart σ ρ p):nY G F σ ρ (upd H0 p o) H where
 sub:=λb u e=>by
  by_cases hb:b=p
  ·subst hb;rw[nW]at e;cases e;exact hp
  ·rw[nT hb]at e;exact R.sub _ _ e
 g0:=R.g0.trans (og h0 o)
 keep:=R.keep
 fr:=λb u e=>by
  by_cases hb':b=p
  ·subst hb';exact .inr hb
  ·rw[nT hb']at e;exact R.fr _ _ e
 am:=R.am
 len:=R.len
 sl:=λi s e=>(R.sl i s e).grow (og h0 o) (λa u _ _ q=>q) λa u z so q q0=>by rw[nT (λy=>ap i s e so (by rw[z,y]))];exact q0
 ap:=R.ap
theorem AH{σ:St}{i:Nat}{v:Option V}(hi:i<σ.length):((σ.set i v)[j]?).join=if j=i then v else (σ[j]?).join:=by
 rw[bE];by_cases h:i=j
 ·subst h;simp[hi]
 ·rw[ah h,ah (λz=>h z.symm)]
theorem nY.set(R:nY G F σ ρ H0 H){i:Nat}{v:V}{s:Sl}(hs:yM G F H0 H (some v) s)(ap:s.own=true->∀a,v=.ref a->∀(j:Nat) (t:Sl),j≠i->ρ[j]?=some t->t.own=true->(σ[j]?).join≠some (.ref a)):
  nY G F (σ.set i (some v)) (ρ.set i s) H0 H where
 sub:=R.sub
 g0:=R.g0
 keep:=R.keep
 fr:=R.fr
 am:=R.am
 len:=by rw[dc,dc,R.len]
 sl:=λj t e=>by
  rw[bE]at e;by_cases h:i=j
  ·subst h;rw[ag rfl]at e;split at e
   ·rename_i hi;cases e;rw[AH (by rw[R.len];exact hi),ag rfl];exact hs
   ·cases e
  ·rw[ah h]at e;have hh:=R.sl j t e;rw[bE,ah h];exact hh
 ap:=λj k t u a hjk ej ek tj tk vj vk=>by
  have gen:∀{m:Nat} {x:Sl},(ρ.set i s)[m]?=some x->m≠i->ρ[m]?=some x/\((σ.set i (some v))[m]?).join=(σ[m]?).join:=λ{m x} e hm=>by rw[bE,ah (λz=>hm z.symm)]at e;exact⟨e,by rw[bE,ah (λz=>hm z.symm)]⟩
  have self:∀{x:Sl},(ρ.set i s)[i]?=some x->x=s/\((σ.set i (some v))[i]?).join=some v:=λ{x} e=>by
   rw[bE,ag rfl]at e;split at e
   ·rename_i hi;cases e;exact⟨rfl,by rw[AH (by rw[R.len];exact hi),ag rfl]⟩
   ·cases e
  by_cases hj:j=i
  ·subst hj;obtain⟨rfl,ev⟩:=self ej;rw[ev]at vj;cases vj;obtain⟨e2,e3⟩:=gen ek (λz=>hjk z.symm);rw[e3]at vk;exact ap tj a rfl k u (λz=>hjk z.symm) e2 tk vk
  ·obtain⟨e2,e3⟩:=gen ej hj;by_cases hk:k=i
   ·subst hk;obtain⟨rfl,ev⟩:=self ek;rw[ev]at vk;cases vk;rw[e3]at vj;exact ap tk a rfl j t hj e2 tj vj
   ·obtain⟨e4,e5⟩:=gen ek hk;rw[e3]at vj;rw[e5]at vk;exact R.ap j k t u a hjk e2 e4 tj tk vj vk
theorem nY.setIm(R:nY G F σ ρ H0 H)(i:Nat){v:V}(h:Rep G H0 d v):nY G F (σ.set i (some v)) (ρ.set i (.im d)) H0 H:=R.set ⟨v,rfl,h⟩ λz=>by cases z
theorem nY.setLs(R:nY G F σ ρ H0 H)(i:Nat)(hp:H p=some (.lst xs))(h0:H0 p=none)(hb:F.B p=none)(ap:Apart σ ρ p)(h:nM G H0 ds xs):nY G F (σ.set i (some (.ref p))) (ρ.set i (.ls ds)) H0 H:=
 R.set ⟨p,xs,rfl,hp,h0,hb,h⟩ λ_ a e j t _ ej tj=>by cases e;exact ap j t ej tj
theorem nY.mut(R:nY G F σ ρ H0 H){i:Nat}{s s':Sl}{o:HO}(hi:ρ[i]?=some s)(so:s.own=true)(ha:(σ[i]?).join=some (.ref a))(ok:∀H',H' a=some o->yM G F H0 H' (some (.ref a)) s')
  (so':s'.own=true):nY G F σ (ρ.set i s') H0 (upd H a o):=by
 obtain⟨a',u,e1,e2,e3,e4⟩:=(R.sl i s hi).at so;rw[ha]at e1;cases e1;exact {
  sub:=λb w e=>by rw[nT (λz=>by rw[z,e3]at e;cases e)];exact R.sub _ _ e
  g0:=R.g0
  keep:=λb w e n=>by
   have nb:b≠a:=λz=>by
    subst z;rcases e4 with q|q
    ·rw[q]at e;cases e
    ·exact n q
   rw[nT nb];exact R.keep b w e n
  fr:=R.fr
  am:=λb hb=>by
   by_cases z:b=a
   ·subst z;exact⟨o,nW⟩
   ·rw[nT z];exact R.am b hb
  len:=by rw[dc];exact R.len
  sl:=λj t e=>by
   rw[bE]at e;by_cases h:i=j
   ·subst h;rw[ag rfl]at e;split at e
    ·cases e;rw[ha];exact ok _ nW
    ·cases e
   ·rw[ah h]at e;refine(R.sl j t e).grow (nR.refl _) (λb w z to q=>?_) λb w _ _ _ q=>q;rw[nT (λy=>by subst y;exact R.ap j i t s b (λy=>h y.symm) e hi to so z ha)];exact q
  ap:=λj k t u b hjk ej ek tj tk vj vk=>by
   have gen:∀{m:Nat} {x:Sl},(ρ.set i s')[m]?=some x->∃y,ρ[m]?=some y/\(x.own=true->y.own=true):=λ{m x} e=>by
    rw[bE]at e;by_cases h:i=m
    ·subst h;exact⟨s,hi,λ_=>so⟩
    ·rw[ah h]at e;exact⟨x,e,λq=>q⟩
   obtain⟨y,ey,oy⟩:=gen ej;obtain⟨z,ez,oz⟩:=gen ek;exact R.ap j k y z b hjk ey ez (oy tj) (oz tk) vj vk }
end
abbrev FE:=List Sl->Option (D×List Sl)
abbrev FT:=List Sl->Option (Bool×List Sl)
abbrev FA:=List Sl->Option (List D×List Sl)
def tF(G:Bg)(f:FE):TE:=λσ H Q=>∃F ρ H0 d ρ',nY G F σ ρ H0 H/\f ρ=some (d,ρ')/\∀v H0' H',nR H0 H0'->nY G F σ ρ' H0' H'->Rep G H0' d v->Q v H'
def tFT(G:Bg)(f:FT):TT:=λσ H Q=>∃F ρ H0 d ρ',nY G F σ ρ H0 H/\f ρ=some (d,ρ')/\∀H0' H',nR H0 H0'->nY G F σ ρ' H0' H'->Q d H'
def tFA(G:Bg)(f:FA):TA:=λσ H Q=>∃F ρ H0 ds ρ',nY G F σ ρ H0 H/\f ρ=some (ds,ρ')/\∀xs H0' H',nR H0 H0'->nY G F σ ρ' H0' H'->nM G H0' ds xs->Q xs H'
def tFN(G:Bg)(f:FA):TE:=λσ H Q=>∃F ρ H0 ds ρ',nY G F σ ρ H0 H/\f ρ=some (ds,ρ')/\∀p xs H0' H',nR H0 H0'->nY G F σ ρ' H0' H'->H' p=some (.lst xs)->H0' p=none->F.B p=none->Apart σ ρ' p->nM G H0' ds xs->Q (.ref p) H'
variable{X:Cx}{e:Expr}
theorem PE.weak{t t':TE}(h:PE X e t)(w:∀σ H Q,t' σ H Q->t σ H Q):PE X e t':=λpins s σ H Q I hq=>h pins s σ H Q I (w _ _ _ hq)
variable{t':TT}
theorem PT.weak{t:TT}(h:PT X e t)(w:∀σ H Q,t' σ H Q->t σ H Q):PT X e t':=λpins s σ H Q I hq=>h pins s σ H Q I (w _ _ _ hq)
theorem PW.weak{t:TT}(h:PW X e t)(w:∀σ H Q,t' σ H Q->t σ H Q):PW X e t':=λwh pins s σ H Q I hq=>h wh pins s σ H Q I (w _ _ _ hq)
theorem PA.weak{e:List Expr}{t t':TA}(h:PA X e t)(w:∀σ H Q,t' σ H Q->t σ H Q):PA X e t':=λpos pins s σ H Q I hq=>h pos pins s σ H Q I (w _ _ _ hq)
noncomputable def cC(d:D):FE:=λρ=>some (d,ρ)
noncomputable def cV(i:Nat):FE:=λρ=>match ρ[i]? with
 |some (.im d)=>some (d,ρ)
 |_=>none
noncomputable def c1(g:D->Option D) (f:FE):FE:=λρ=>match f ρ with
 |some (d,ρ')=>match g d with
  |some x=>some (x,ρ')
  |none=>none
 |none=>none
noncomputable def c2(g:D->D->Option D) (f f':FE):FE:=λρ=>match f ρ with
 |some (x,ρ1)=>match f' ρ1 with
  |some (y,ρ2)=>match g x y with
   |some z=>some (z,ρ2)
   |none=>none
  |none=>none
 |none=>none
variable{f:FE}{ρ ρ':List Sl}{z:D}
theorem xp{g:D->Option D}(h:c1 g f ρ=some (z,ρ')):∃d,f ρ=some (d,ρ')/\g d=some z:=by
 unfold c1 at h;cases e:f ρ with
 |none=>rw[e]at h;cases h
 |some p=>
  obtain⟨d,ρ1⟩:=p;rw[e]at h;cases e2:g d with
  |none=>simp only[e2]at h;cases h
  |some x=>simp only[e2]at h;cases h;exact⟨d,rfl,e2⟩
variable{f':FE}
theorem zV{g:D->D->Option D}(h:c2 g f f' ρ=some (z,ρ')):∃x y ρ1,f ρ=some (x,ρ1)/\f' ρ1=some (y,ρ')/\g x y=some z:=by
 unfold c2 at h;cases e:f ρ with
 |none=>rw[e]at h;cases h
 |some p=>
  obtain⟨x,ρ1⟩:=p;simp only[e]at h;cases e2:f' ρ1 with
  |none=>simp only[e2]at h;cases h
  |some q=>
   obtain⟨y,ρ2⟩:=q;simp only[e2]at h;cases e3:g x y with
   |none=>simp only[e3]at h;cases h
   |some w=>simp only[e3]at h;cases h;exact⟨x,y,ρ1,rfl,e2,e3⟩
variable{b:Expr}{pos:Pos}{op:eB}{es:List Expr}
section
variable{X:Cx}{G:Bg}
theorem KN{i j pos}:PE X (.Constant (.int i) j pos) (tF G (cC (.int i))):=PE.weak Ep λσ H Q h=>by obtain⟨F,ρ,H0,d,ρ',R,e,k⟩:=h;cases e;exact k _ _ _ (nR.refl _) R (pK i)
theorem NV{i j pos}:PE X (.Constant (.bool i) j pos) (tF G (cC (.bl i))):=PE.weak Nr λσ H Q h=>by obtain⟨F,ρ,H0,d,ρ',R,e,k⟩:=h;cases e;exact k _ _ _ (nR.refl _) R (qr i)
theorem KO{i j pos}:PE X (.Constant (.str i) j pos) (tF G (cC (.str i))):=PE.weak J7 λσ H Q h=>by obtain⟨F,ρ,H0,d,ρ',R,e,k⟩:=h;cases e;exact k _ _ _ (nR.refl _) R (vn i)
theorem KP{j pos}:PE X (.Constant .none j pos) (tF G (cC .non)):=PE.weak J4 λσ H Q h=>by obtain⟨F,ρ,H0,d,ρ',R,e,k⟩:=h;cases e;exact k _ _ _ (nR.refl _) R vo
theorem Hv{i:Nat}(h:cV i ρ=some (d,ρ')):ρ[i]?=some (.im d)/\ρ'=ρ:=by
 unfold cV at h;split at h
 ·rename_i e;cases h;exact⟨e,rfl⟩
 ·cases h
theorem qm{α:Type}{o:Option (Option α)}{v:α}(h:o.join=some v):o=some (some v):=by
 cases o with
 |none=>cases h
 |some u=>cases u with
  |none=>cases h
  |some w=>cases h;rfl
theorem BD{i:Nat}(h:PE X e (sj i)):PE X e (tF G (cV i)):=PE.weak h λσ H Q hh=>by obtain⟨F,ρ,H0,d,ρ',R,e,k⟩:=hh;obtain⟨e1,rfl⟩:=Hv e;obtain⟨v,e2,e3⟩:=R.sl i _ e1;exact⟨v,qm e2,k _ _ _ (nR.refl _) R e3⟩
theorem Hw{v:V}(h:PE X e (tC v))(r:∀H,Rep G H d v):PE X e (tF G (cC d)):=PE.weak h λσ H Q hh=>by obtain⟨F,ρ,H0,d',ρ',R,e,k⟩:=hh;cases e;exact k _ _ _ (nR.refl _) R (r _)
def OpD(G:Bg)(r:R2)(g:D->D->Option D):Prop:=∀x y z H0 H v u (Q:VK),g x y=some z->nR H0 H->Rep G H0 x v->Rep G H0 y u->(∀w,(∀H0',nR H0 H0'->Rep G H0' z w)->Q w H)->r v u H Q
theorem Cp{r:R2}{g:D->D->Option D}(ho:OpD G r g):∀σ H Q,tF G (c2 g f f') σ H Q->tOp r (tF G f) (tF G f') σ H Q:=λσ H Q hh=>by obtain⟨F,ρ,H0,d,ρ',R,e,k⟩:=hh;obtain⟨x,y,ρ1,e1,e2,e3⟩:=zV e;refine⟨F,ρ,H0,x,ρ1,R,e1,λv H1 H1' s1 R1 r1=>⟨F,ρ1,H1,y,ρ',R1,e2,λu H2 H2' s2 R2 r2=>?_⟩⟩;exact ho x y d H2 H2' v u Q e3 R2.sub (Rep.mono s2 _ _ r1) r2 λw hw=>k w H2 H2' (s1.trans s2) R2 (hw _ (nR.refl _))
theorem NW{a:Expr}{op:gH}{r:R2}{g:D->D->Option D}(hr:OpR X (cF op) r)(ho:OpD G r g)(ha:PE X a (tF G f))(hb:PE X b (tF G f')):PE X (.BinOp a op b pos) (tF G (c2 g f f')):=PE.weak (Ey hr ha hb) (Cp ho)
theorem KQ{a:Expr}{r:R2}{g:D->D->Option D}(hr:OpR X (aU op) r)(ho:OpD G r g)(ha:PE X a (tF G f))(hb:PE X b (tF G f'))(hm:d5 op b=false):PE X (.Compare a [op] [b] pos) (tF G (c2 g f f')):=PE.weak (G0 hr ha hb hm) (Cp ho)
theorem NX{a:Expr}{r:R2}{g:D->D->Option D}(hr:IxR X r)(ho:OpD G r g)(ha:PE X a (tF G f))(hb:PE X b (tF G f'))(hs:Cj b):PE X (.Subscript a b pos) (tF G (c2 g f f')):=PE.weak (Jt hr ha hb hs) (Cp ho)
def cT(f:FE):FT:=λρ=>match f ρ with
 |some (.bl b,ρ')=>some (b,ρ')
 |_=>none
theorem Cq{b:Bool}(h:cT f ρ=some (b,ρ')):f ρ=some (.bl b,ρ'):=by
 unfold cT at h;split at h
 ·rename_i e;cases h;exact e
 ·cases h
theorem Cr:∀σ H Q,tFT G (cT f) σ H Q->EC (tF G f) σ H Q:=λσ H Q hh=>by obtain⟨F,ρ,H0,d,ρ',R,e,k⟩:=hh;refine⟨F,ρ,H0,_,ρ',R,Cq e,λv H0' H' s R' r=>?_⟩;unfold Rep at r;exact⟨d,r,k _ _ s R'⟩
theorem Hy{a:Expr}{r:R2}{g:D->D->Option D}(hr:OpR X (aU op) r)(ho:OpD G r g)(ha:PE X a (tF G f))(hb:PE X b (tF G f'))(hm:d5 op b=false):
  PT X (.Compare a [op] [b] pos) (tFT G (cT (c2 g f f'))):=PT.weak (G1 hr ha hb hm) λσ H Q hh=>by
 obtain⟨F,ρ,H0,d,ρ',R,e,k⟩:=Cr σ H Q hh;exact Cp ho σ H _ ⟨F,ρ,H0,d,ρ',R,e,k⟩
theorem Hz(h:PE X e (tF G f))(he:∀whole,isTrue e X.env whole=(do let v<-whole;standAt e.pos;holding [v] (truthy v)):=by intro _;rfl):PT X e (tFT G (cT f)):=PT.weak (J8 h he) λσ H Q hh=>by obtain⟨F,ρ,H0,d,ρ',R,e,k⟩:=hh;refine⟨F,ρ,H0,_,ρ',R,Cq e,λv H0' H' s R' r=>?_⟩;unfold Rep at r;exact⟨d,r,k _ _ s R'⟩
def qG(f:FT):FT:=λρ=>match f ρ with
 |some (b,ρ')=>some (!b,ρ')
 |none=>none
def xi(f g:FT):FT:=λρ=>match f ρ with
 |some (false,ρ')=>g ρ'
 |r=>r
theorem HA{a:Expr}{f:FT}(h:PT X a (tFT G f)):PT X (.UnaryOp .Not a pos) (tFT G (qG f)):=PT.weak (Ka h) λσ H Q hh=>by
 obtain⟨F,ρ,H0,d,ρ',R,e,k⟩:=hh;unfold qG at e;cases e1:f ρ with
 |none=>simp only[e1]at e;cases e
 |some p=>obtain⟨b,ρ1⟩:=p;simp only[e1]at e;cases e;exact⟨F,ρ,H0,b,_,R,e1,λH0' H' s R'=>k _ _ s R'⟩
theorem NY{f g:FT}:∀σ H Q,tFT G (xi f g) σ H Q->tOr (tFT G f) (tFT G g) σ H Q:=λσ H Q hh=>by
 obtain⟨F,ρ,H0,d,ρ',R,e,k⟩:=hh;unfold xi at e;cases e1:f ρ with
 |none=>simp only[e1]at e;cases e
 |some p=>
  obtain⟨b,ρ1⟩:=p;cases b with
  |false=>simp only[e1]at e;exact⟨F,ρ,H0,false,ρ1,R,e1,λH0' H' s R'=>AC ⟨F,ρ1,H0',d,ρ',R',e,λH2 H2' s2 R2=>k _ _ (s.trans s2) R2⟩⟩
  |true=>simp only[e1]at e;cases e;exact⟨F,ρ,H0,true,_,R,e1,λH0' H' s R'=>AD (k _ _ s R')⟩
theorem HB{a:Expr}{f:FT}(h:PT X a (tFT G f)):PW X (.BoolOp .Or [a] pos) (tFT G f):=J9 h
theorem EX{a:Expr}{rest:List Expr}{f g:FT}(ha:PT X a (tFT G f))(hb:PW X (.BoolOp .Or (b::rest) pos) (tFT G g)):PW X (.BoolOp .Or (a::b::rest) pos) (tFT G (xi f g)):=PW.weak (Nt ha hb) NY
def qt(f g:FE):FE:=λρ=>match f ρ with
 |some (.bl true,ρ')=>g ρ'
 |some (.bl false,ρ')=>some (.bl false,ρ')
 |_=>none
def cOr(f g:FE):FE:=λρ=>match f ρ with
 |some (.bl false,ρ')=>g ρ'
 |some (.bl true,ρ')=>some (.bl true,ρ')
 |_=>none
def vY(f:FE):FE:=λρ=>match f ρ with
 |some (.bl b,ρ')=>some (.bl !b,ρ')
 |_=>none
def cIf(c:FT)(f g:FE):FE:=λρ=>match c ρ with
 |some (true,ρ')=>f ρ'
 |some (false,ρ')=>g ρ'
 |none=>none
theorem KR{a:Expr}{op}(h:PE X a (tF G f)):PE X (.BoolOp op [a] pos) (tF G f):=Kb h
theorem AI:(∃ρ1,f ρ=some (.bl true,ρ1))\/(∃ρ1,f ρ=some (.bl false,ρ1))\/(∀b ρ1,f ρ≠some (.bl b,ρ1)):=by
 by_cases h1:∃ρ1,f ρ=some (.bl true,ρ1)
 ·exact .inl h1
 by_cases h2:∃ρ1,f ρ=some (.bl false,ρ1)
 ·exact .inr (.inl h2)
 refine .inr (.inr λb ρ1 z=>?_);cases b with
 |true=>exact h1 ⟨ρ1,z⟩
 |false=>exact h2 ⟨ρ1,z⟩
theorem DV{g:FE}(h:∀b ρ1,f ρ≠some (.bl b,ρ1)):qt f g ρ=none:=by
 unfold qt;split
 ·rename_i e;exact ak e (h _ _)
 ·rename_i e;exact ak e (h _ _)
 ·rfl
theorem EY{g:FE}(h:∀b ρ1,f ρ≠some (.bl b,ρ1)):cOr f g ρ=none:=by
 unfold cOr;split
 ·rename_i e;exact ak e (h _ _)
 ·rename_i e;exact ak e (h _ _)
 ·rfl
theorem KU{a:Expr}{rest:List Expr}{g:FE}(ha:PE X a (tF G f))(hb:PE X (.BoolOp .And (b::rest) pos) (tF G g)):PE X (.BoolOp .And (a::b::rest) pos) (tF G (qt f g)):=PE.weak (Kc ha hb) λσ H Q hh=>by
 obtain⟨F,ρ,H0,d,ρ',R,e,k⟩:=hh;rcases AI (f:=f) (ρ:=ρ)with ⟨ρ1,e1⟩|⟨ρ1,e1⟩|e1
 ·have e':g ρ1=some (d,ρ'):=by unfold qt at e;simp only[e1]at e;exact e
  refine⟨F,ρ,H0,_,ρ1,R,e1,λv H1 H1' s R' r=>?_⟩;unfold Rep at r;refine⟨true,r,?_⟩;exact AD ⟨F,ρ1,H1,d,ρ',R',e',λv H2 H2' s2 R2 r2=>k _ _ _ (s.trans s2) R2 r2⟩
 ·have e':some (D.bl false,ρ1)=some (d,ρ'):=by unfold qt at e;simp only[e1]at e;exact e
  cases e';refine⟨F,ρ,H0,_,_,R,e1,λv H1 H1' s R' r=>?_⟩;have r':=r;unfold Rep at r';refine⟨false,r',?_⟩;exact AC (k _ _ _ s R' (qr false))
 ·rw[DV e1]at e;cases e
theorem NZ{a:Expr}{rest:List Expr}{g:FE}(ha:PE X a (tF G f))(hb:PE X (.BoolOp .Or (b::rest) pos) (tF G g)):PE X (.BoolOp .Or (a::b::rest) pos) (tF G (cOr f g)):=PE.weak (Nw ha hb) λσ H Q hh=>by
 obtain⟨F,ρ,H0,d,ρ',R,e,k⟩:=hh;rcases AI (f:=f) (ρ:=ρ)with ⟨ρ1,e1⟩|⟨ρ1,e1⟩|e1
 ·have e':some (D.bl true,ρ1)=some (d,ρ'):=by unfold cOr at e;simp only[e1]at e;exact e
  cases e';refine⟨F,ρ,H0,_,_,R,e1,λv H1 H1' s R' r=>?_⟩;unfold Rep at r;refine⟨true,r,?_⟩;exact AD (k _ _ _ s R' (qr true))
 ·have e':g ρ1=some (d,ρ'):=by unfold cOr at e;simp only[e1]at e;exact e
  refine⟨F,ρ,H0,_,ρ1,R,e1,λv H1 H1' s R' r=>?_⟩;unfold Rep at r;refine⟨false,r,?_⟩;exact AC ⟨F,ρ1,H1,d,ρ',R',e',λv H2 H2' s2 R2 r2=>k _ _ _ (s.trans s2) R2 r2⟩
 ·rw[EY e1]at e;cases e
theorem KW{a:Expr}(ha:PE X a (tF G f)):PE X (.UnaryOp .Not a pos) (tF G (vY f)):=PE.weak (Ke ha) λσ H Q hh=>by
 obtain⟨F,ρ,H0,d,ρ',R,e,k⟩:=hh;unfold vY at e;split at e
 ·rename_i b ρ1 e1;cases e;refine⟨F,ρ,H0,_,_,R,e1,λv H1 H1' s R' r=>?_⟩;unfold Rep at r;exact⟨b,r,k _ _ _ s R' (qr _)⟩
 ·cases e
theorem N0{c a:Expr}{h:FT}{g:FE}(hc:PT X c (tFT G h))(ha:PE X a (tF G f))(hb:PE X b (tF G g)):PE X (.IfExp c a b pos) (tF G (cIf h f g)):=PE.weak (Er hc ha hb) λσ H Q hh=>by
 obtain⟨F,ρ,H0,d,ρ',R,e,k⟩:=hh;unfold cIf at e;cases e1:h ρ with
 |none=>simp only[e1]at e;cases e
 |some p=>
  obtain⟨b,ρ1⟩:=p;refine⟨F,ρ,H0,b,ρ1,R,e1,λH1 H1' s R'=>?_⟩;cases b with
  |true=>simp only[e1]at e;exact AD ⟨F,ρ1,H1,d,ρ',R',e,λv H2 H2' s2 R2 r2=>k _ _ _ (s.trans s2) R2 r2⟩
  |false=>simp only[e1]at e;exact AC ⟨F,ρ1,H1,d,ρ',R',e,λv H2 H2' s2 R2 r2=>k _ _ _ (s.trans s2) R2 r2⟩
noncomputable def ox:FA:=λρ=>some ([],ρ)
noncomputable def aCons(f:FE) (g:FA):FA:=λρ=>match f ρ with
 |some (d,ρ1)=>match g ρ1 with
  |some (ds,ρ2)=>some (d::ds,ρ2)
  |none=>none
 |none=>none
theorem BE{g:FA}(h:aCons f g ρ=some (ds,ρ')):∃d r ρ1,f ρ=some (d,ρ1)/\g ρ1=some (r,ρ')/\ds=d::r:=by
 unfold aCons at h;cases e:f ρ with
 |none=>rw[e]at h;cases h
 |some p=>
  obtain⟨x,ρ1⟩:=p;simp only[e]at h;cases e2:g ρ1 with
  |none=>simp only[e2]at h;cases h
  |some q=>obtain⟨y,ρ2⟩:=q;simp only[e2]at h;cases h;exact⟨x,y,ρ1,rfl,e2,rfl⟩
theorem rD:PA X [] (tFA G ox):=PA.weak tV λσ H Q hh=>by obtain⟨F,ρ,H0,d,ρ',R,e,k⟩:=hh;cases e;exact k _ _ _ (nR.refl _) R ot
theorem pS{g:FA}(ha:PE X e (tF G f))(hr:PA X es (tFA G g))(hs:ar (e::es) X.env=(false,eval e X.env)::ar es X.env:=by rfl):PA X (e::es) (tFA G (aCons f g)):=PA.weak (qY ha hr hs) λσ H Q hh=>by obtain⟨F,ρ,H0,d,ρ',R,e,k⟩:=hh;obtain⟨x,r,ρ1,e1,e2,rfl⟩:=BE e;exact⟨F,ρ,H0,x,ρ1,R,e1,λv H1 H1' s R' rv=>⟨F,ρ1,H1,r,ρ',R',e2,λxs H2 H2' s2 R2 rs=>k _ _ _ (s.trans s2) R2 (oB (Rep.mono s2 _ _ rv) rs)⟩⟩
def oP(g:FA):FE:=λρ=>match g ρ with
 |some (ds,ρ')=>if ds.length<=1000 then some (.tup ds,ρ')else none
 |none=>none
def n6(g:FA):FA:=λρ=>match g ρ with
 |some (ds,ρ')=>if ds.length<=1000 then some (ds,ρ')else none
 |none=>none
theorem KY{x1}{g:FA}(h:PA X es (tFA G g)):PE X (.Tuple es x1 pos) (tF G (oP g)):=PE.weak (Ky h) λσ H Q hh=>by
 obtain⟨F,ρ,H0,d,ρ',R,e,k⟩:=hh;unfold oP at e;cases e1:g ρ with
 |none=>simp only[e1]at e;cases e
 |some p=>
  obtain⟨ds,ρ1⟩:=p;simp only[e1]at e;split at e
  ·rename_i hl;cases e;refine⟨F,ρ,H0,_,_,R,e1,λxs H1 H1' s R' rs=>⟨by rw[<-nL rs];exact qQ hl,λp hp=>?_⟩⟩;exact k _ _ _ (s.trans (og (R'.h0none hp) _)) (R'.newIm hp _) (zU (SqT.of nW) (nM.mono (og (R'.h0none hp) _) _ _ rs))
  ·cases e
theorem HC{g:FA}(h:PA X es (tFA G g)):PE X (.List es pos) (tFN G (n6 g)):=PE.weak (EG h) λσ H Q hh=>by
 obtain⟨F,ρ,H0,d,ρ',R,e,k⟩:=hh;unfold n6 at e;cases e1:g ρ with
 |none=>simp only[e1]at e;cases e
 |some p=>
  obtain⟨ds,ρ1⟩:=p;simp only[e1]at e;split at e
  ·rename_i hl;cases e;refine⟨F,ρ,H0,_,_,R,e1,λxs H1 H1' s R' rs=>⟨by rw[<-nL rs];exact qQ hl,λp hp=>?_⟩⟩;exact k _ _ _ _ s (R'.newOwn hp _) nW (R'.h0none hp) (R'.bNone hp) (R'.apart hp) rs
  ·cases e
def cL(g:FA):FE:=λρ=>match g ρ with
 |some (ds,ρ')=>some (.lst ds,ρ')
 |none=>none
theorem HD{g:FA}(h:cL g ρ=some (d,ρ')):∃ds,g ρ=some (ds,ρ')/\d=.lst ds:=by
 unfold cL at h;cases e:g ρ with
 |none=>simp only[e]at h;cases h
 |some p=>obtain⟨ds,ρ1⟩:=p;simp only[e]at h;cases h;exact⟨ds,rfl,rfl⟩
theorem N1{g:FA}:∀σ H Q,tF G (cL g) σ H Q->tFN G g σ H Q:=λσ H Q hh=>by obtain⟨F,ρ,H0,d,ρ',R,e,k⟩:=hh;obtain⟨ds,e1,rfl⟩:=HD e;refine⟨F,ρ,H0,ds,ρ',R,e1,λp xs H1 H1' s R' hp h0 hb ap rs=>?_⟩;exact k _ _ _ (s.trans (og h0 _)) (R'.freeze hp h0 hb ap) (sW nW (nM.mono (og h0 _) _ _ rs))
theorem KZ{g:FA}(h:PE X e (tFN G g)):PE X e (tF G (cL g)):=PE.weak h N1
end
inductive Out where
 |nx (ρ:List Sl)|bk (ρ:List Sl)|ct (ρ:List Sl)
 |rt (d:D) (ρ:List Sl)
 |rn (ds:List D) (ρ:List Sl)
abbrev FS:=List Sl->Option Out
def Cs(G:Bg)(F:Fr)(H0:Hp)(E:Ends):Out->Prop
 |.nx ρ'=>∀σ' H0' H',nR H0 H0'->nY G F σ' ρ' H0' H'->E.nx σ' H'
 |.bk ρ'=>∀σ' H0' H',nR H0 H0'->nY G F σ' ρ' H0' H'->E.bk σ' H'
 |.ct ρ'=>∀σ' H0' H',nR H0 H0'->nY G F σ' ρ' H0' H'->E.ct σ' H'
 |.rt d ρ'=>∀v σ' H0' H',nR H0 H0'->nY G F σ' ρ' H0' H'->Rep G H0' d v->E.rt v H'
 |.rn ds ρ'=>∀p xs σ' H0' H',nR H0 H0'->nY G F σ' ρ' H0' H'->H' p=some (.lst xs)->H0' p=none->F.B p=none->Apart σ' ρ' p->nM G H0' ds xs->E.rt (.ref p) H'
def tFS(G:Bg)(f:FS):TS:=λE σ H=>∃F ρ H0 o,nY G F σ ρ H0 H/\f ρ=some o/\Cs G F H0 E o/\(∀p,E.rt p=E.rt p)
variable{H1:Hp}
theorem Cs.back{E:Ends}{o:Out}(h:Cs G F H0 E o)(s:nR H0 H1):Cs G F H1 E o:=by
 cases o with
 |nx ρ=>exact λσ' H0' H' s' R=>h σ' H0' H' (s.trans s') R
 |bk ρ=>exact λσ' H0' H' s' R=>h σ' H0' H' (s.trans s') R
 |ct ρ=>exact λσ' H0' H' s' R=>h σ' H0' H' (s.trans s') R
 |rt d ρ=>exact λv σ' H0' H' s' R=>h v σ' H0' H' (s.trans s') R
 |rn ds ρ=>exact λp xs σ' H0' H' s' R=>h p xs σ' H0' H' (s.trans s') R
theorem PS.weak{e:Stmt}{t t':TS}(h:PS X e t)(w:∀E σ H,t' E σ H->t E σ H):PS X e t':=λpins s σ H D I hq=>h pins s σ H D I (w _ _ _ hq)
theorem PSs.weak{e:List Stmt}{t t':TS}(h:PSs X e t)(w:∀E σ H,t' E σ H->t E σ H):PSs X e t':=λpins s σ H D I hq=>h pins s σ H D I (w _ _ _ hq)
def pG:FS:=λρ=>some (.nx ρ)
noncomputable def nP(f g:FS):FS:=λρ=>match f ρ with
 |some (.nx ρ')=>g ρ'
 |r=>r
variable{σ:St}{tg:Expr}{gs:List D->List Sl->Option (List Sl)}{N:List Str}{vs:List V}{np:Nat}
section
variable{X:Cx}{G:Bg}
theorem EZ{E:Ends}{H:Hp}(h:tFS G pG E σ H):E.nx σ H:=by obtain⟨F,ρ,H0,o,R,e,k,_⟩:=h;cases e;exact k _ _ _ (nR.refl _) R
theorem HE:PSs X [] (tFS G pG):=PSs.weak B8 λE σ H h=>EZ h
theorem E1{st:Stmt}{rest:List Stmt}{f g:FS}(h1:PS X st (tFS G f))(h2:PSs X rest (tFS G g)):PSs X (st::rest) (tFS G (nP f g)):=PSs.weak (ve h1 h2) λE σ H h=>by
 obtain⟨F,ρ,H0,o,R,e,k,k2⟩:=h;unfold nP at e;cases e1:f ρ with
 |none=>simp only[e1]at e;cases e
 |some o1=>
  cases o1 with
  |nx ρ1=>simp only[e1]at e;exact⟨F,ρ,H0,_,R,e1,λσ' H0' H' s R'=>⟨F,ρ1,H0',o,R',e,k.back s,k2⟩,k2⟩
  |bk ρ1=>simp only[e1]at e;cases e;exact⟨F,ρ,H0,_,R,e1,k,k2⟩
  |ct ρ1=>simp only[e1]at e;cases e;exact⟨F,ρ,H0,_,R,e1,k,k2⟩
  |rt d ρ1=>simp only[e1]at e;cases e;exact⟨F,ρ,H0,_,R,e1,k,k2⟩
  |rn d ρ1=>simp only[e1]at e;cases e;exact⟨F,ρ,H0,_,R,e1,k,k2⟩
theorem HF{st:Stmt}{f:FS}(h1:PS X st (tFS G f)):PSs X [st] (tFS G f):=xm h1
noncomputable def oZ(f:FE):FS:=λρ=>match f ρ with
 |some (d,ρ')=>some (.rt d ρ')
 |none=>none
noncomputable def pX(f:FA):FS:=λρ=>match f ρ with
 |some (d,ρ')=>some (.rn d ρ')
 |none=>none
theorem n4{α:Type}{f:List Sl->Option (α×List Sl)}:f ρ=none\/∃d ρ',f ρ=some (d,ρ'):=by
 cases e:f ρ with
 |none=>exact .inl rfl
 |some p=>exact .inr ⟨p.1,p.2,rfl⟩
theorem HG(h:PE X e (tF G f)):PS X (.Return (some e) pos) (tFS G (oZ f)):=PS.weak (Bl h) λE σ H hh=>by
 obtain⟨F,ρ,H0,o,R,e,k,k2⟩:=hh;unfold oZ at e;rcases n4 (f:=f) (ρ:=ρ)with e1|⟨d,ρ',e1⟩<;>simp only[e1]at e
 ·cases e
 ·cases e;exact⟨F,ρ,H0,d,ρ',R,e1,λv H0' H' s R' r=>k _ _ _ _ s R' r⟩
theorem E2{f:FA}(h:PE X e (tFN G f)):PS X (.Return (some e) pos) (tFS G (pX f)):=PS.weak (Bl h) λE σ H hh=>by
 obtain⟨F,ρ,H0,o,R,e,k,k2⟩:=hh;unfold pX at e;rcases n4 (f:=f) (ρ:=ρ)with e1|⟨d,ρ',e1⟩<;>simp only[e1]at e
 ·cases e
 ·cases e;exact⟨F,ρ,H0,d,ρ',R,e1,λp xs H0' H' s R' h1 h2 h3 h4 h5=>k _ _ _ _ _ s R' h1 h2 h3 h4 h5⟩
noncomputable def qy(f:FE):FS:=λρ=>match f ρ with
 |some (_,ρ')=>some (.nx ρ')
 |none=>none
theorem E3(h:PE X e (tF G f))(hs:b9 e none pos.line X.env=pure false:=by rfl):PS X (.Expr e pos) (tFS G (qy f)):=PS.weak (zG h hs) λE σ H hh=>by
 obtain⟨F,ρ,H0,o,R,e,k,k2⟩:=hh;unfold qy at e;rcases n4 (f:=f) (ρ:=ρ)with e1|⟨d,ρ',e1⟩<;>simp only[e1]at e
 ·cases e
 ·cases e;exact⟨F,ρ,H0,d,ρ',R,e1,λv H0' H' s R' r=>k _ _ _ s R'⟩
noncomputable def sIf(c:FT) (f g:FS):FS:=λρ=>match c ρ with
 |some (true,ρ')=>f ρ'
 |some (false,ρ')=>g ρ'
 |none=>none
theorem K0{c:Expr}{a b:List Stmt}{h:FT}{f g:FS}(hc:PT X c (tFT G h))(ha:PSs X a (tFS G f))(hb:PSs X b (tFS G g)):PS X (.If c a b pos) (tFS G (sIf h f g)):=PS.weak (Jp hc ha hb) λE σ H hh=>by
 obtain⟨F,ρ,H0,o,R,e,k,k2⟩:=hh;unfold sIf at e;rcases n4 (f:=h) (ρ:=ρ)with e1|⟨d,ρ',e1⟩
 ·simp only[e1]at e;cases e
 ·refine⟨F,ρ,H0,d,ρ',R,e1,λH0' H' s R'=>?_⟩;cases d with
  |true=>simp only[e1]at e;exact AD ⟨F,ρ',H0',o,R',e,k.back s,k2⟩
  |false=>simp only[e1]at e;exact AC ⟨F,ρ',H0',o,R',e,k.back s,k2⟩
abbrev FG:=D->List Sl->Option (List Sl)
def tFG(G:Bg)(n:Nat)(g:FG):TG:=λv σ H Q=>∃F ρ H0 d ρ',nY G F σ ρ H0 H/\Rep G H0 d v/\g d ρ=some ρ'/\∀σ',σ'.drop n=σ.drop n->nY G F σ' ρ' H0 H->Q σ' H
def E4(G:Bg)(n:Nat)(g:List D->List Sl->Option (List Sl)):TGs:=λvs σ H Q=>∃F ρ H0 ds ρ',nY G F σ ρ H0 H/\nM G H0 ds vs/\g ds ρ=some ρ'/\∀σ',σ'.drop n=σ.drop n->nY G F σ' ρ' H0 H->Q σ' H
theorem PG.weak{t t':TG}(h:PG X e t)(w:∀v σ H Q,t' v σ H Q->t v σ H Q):PG X e t':=λpins s σ H x u Q I r hq=>h pins s σ H x u Q I r (w _ _ _ _ hq)
theorem PGs.weak{e:List Expr}{t t':TGs}(h:PGs X e t)(w:∀v σ H Q,t' v σ H Q->t v σ H Q):PGs X e t':=λpins s σ H x u Q I r hq=>h pins s σ H x u Q I r (w _ _ _ _ hq)
def gN(i:Nat):FG:=λd ρ=>some (ρ.set i (.im d))
theorem AJ{α:Type}{l:List α}{i n:Nat}{x:α}(h:i<n):(l.set i x).drop n=l.drop n:=by apply jV;intro j;rw[c6,c6,bE,ah (by omega)]
theorem E5{i:Nat}(n:Nat)(h:PG X tg (r9 i))(hi:i<n):PG X tg (tFG G n (gN i)):=PG.weak h λv σ H Q hh=>by obtain⟨F,ρ,H0,d,ρ',R,r,e,k⟩:=hh;cases e;exact k _ (AJ hi) (R.setIm i r)
def y9:List D->List Sl->Option (List Sl):=λds ρ=>match ds with
 |[]=>some ρ
 |_=>none
def rP(g:FG)(gs:List D->List Sl->Option (List Sl)):List D->List Sl->Option (List Sl):=λds ρ=>match ds with
 |d::r=>match g d ρ with
  |some ρ'=>gs r ρ'
  |none=>none
 |[]=>none
theorem HH{n:Nat}(h:PGs X [] NB):PGs X [] (E4 G n y9):=PGs.weak h λv σ H Q hh=>by
 obtain⟨F,ρ,H0,ds,ρ',R,r,e,k⟩:=hh;cases ds with
 |nil=>cases e;unfold nM at r;exact⟨r,k _ rfl R⟩
 |cons d ds=>cases e
theorem E6{n:Nat}{g:FG}(h:PGs X (e::es) (Jq (tFG G n g) (E4 G n gs))):PGs X (e::es) (E4 G n (rP g gs)):=PGs.weak h λv σ H Q hh=>by
 obtain⟨F,ρ,H0,ds,ρ',R,r,e,k⟩:=hh;cases ds with
 |nil=>cases e
 |cons d ds=>
  unfold nM at r;obtain⟨v1,r1,rfl,q1,q2⟩:=r;unfold rP at e;cases e1:g d ρ with
  |none=>simp only[e1]at e;cases e
  |some ρ1=>simp only[e1]at e;exact⟨v1,r1,rfl,F,ρ,H0,d,ρ1,R,q1,e1,λσ' s R'=>⟨F,ρ1,H0,ds,ρ',R',q2,e,λσ'' s' R''=>k _ (s'.trans s) R''⟩⟩
def gT(gs:List D->List Sl->Option (List Sl))(n:Nat):FG:=λd ρ=>match d with
 |.tup ds=>if ds.length=n then gs ds ρ else none
 |_=>none
theorem HI{n m:Nat}{k:Nat}(h:PG X (.Tuple es k pos) (Kh G.K m (E4 G n gs))):PG X (.Tuple es k pos) (tFG G n (gT gs m)):=PG.weak h λv σ H Q hh=>by
 obtain⟨F,ρ,H0,d,ρ',R,r,e,k⟩:=hh;cases d with
 |tup ds=>
  unfold gT at e;simp only at e;split at e
  ·rename_i hl;unfold Rep at r;obtain⟨a,xs,rfl,h1,h2⟩:=r;exact⟨a,xs,rfl,SqT.mono R.sub h1,by rw[<-nL h2];exact hl,F,ρ,H0,ds,ρ',R,h2,e,k⟩
  ·cases e
 |_=>cases e
def yN(f:FE)(g:FG):FS:=λρ=>match f ρ with
 |some (d,ρ')=>match g d ρ' with
  |some ρ2=>some (.nx ρ2)
  |none=>none
 |none=>none
theorem HJ{st:Stmt}{g:FG}{n:Nat}(h:PS X st (uD (tF G f) (tFG G n g))):PS X st (tFS G (yN f g)):=PS.weak h λE σ H hh=>by
 obtain⟨F,ρ,H0,o,R,e,k,k2⟩:=hh;unfold yN at e;rcases n4 (f:=f) (ρ:=ρ)with e1|⟨d,ρ',e1⟩<;>simp only[e1]at e
 ·cases e
 ·cases e2:g d ρ' with
  |none=>simp only[e2]at e;cases e
  |some ρ2=>simp only[e2]at e;cases e;exact⟨F,ρ,H0,d,ρ',R,e1,λv H0' H' s R' r=>⟨F,ρ',H0',d,ρ2,R',r,e2,λσ' _ R2=>k _ _ _ s R2⟩⟩
def oJ(i:Nat)(f:FE):FS:=λρ=>match f ρ with
 |some (d,ρ')=>some (.nx (ρ'.set i (.im d)))
 |none=>none
theorem Ct{st:Stmt}{i:Nat}(h:PS X st (uD (tF G f) (r9 i))):PS X st (tFS G (oJ i f)):=PS.weak h λE σ H hh=>by
 obtain⟨F,ρ,H0,o,R,e,k,k2⟩:=hh;unfold oJ at e;rcases n4 (f:=f) (ρ:=ρ)with e1|⟨d,ρ',e1⟩<;>simp only[e1]at e
 ·cases e
 ·cases e;exact⟨F,ρ,H0,d,ρ',R,e1,λv H0' H' s R' r=>k _ _ _ s (R'.setIm i r)⟩
def qN(i:Nat)(f:FA):FS:=λρ=>match f ρ with
 |some (d,ρ')=>some (.nx (ρ'.set i (.ls d)))
 |none=>none
theorem AK{st:Stmt}{i:Nat}{f:FA}(h:PS X st (uD (tFN G f) (r9 i))):PS X st (tFS G (qN i f)):=PS.weak h λE σ H hh=>by
 obtain⟨F,ρ,H0,o,R,e,k,k2⟩:=hh;unfold qN at e;rcases n4 (f:=f) (ρ:=ρ)with e1|⟨d,ρ',e1⟩<;>simp only[e1]at e
 ·cases e
 ·cases e;exact⟨F,ρ,H0,d,ρ',R,e1,λp xs H0' H' s R' h1 h2 h3 h4 h5=>k _ _ _ s (R'.setLs i h1 h2 h3 h4 h5)⟩
def stE(n:Nat)(ds:List D):List Sl:=ds.map Sl.im++gn (n - ds.length) .un
def fnD(np n:Nat)(f:FS):List D->Option D:=λds=>if ds.length=np then match f (stE n ds)with
 |some (.rt d _)=>some d
 |some (.rn ds _)=>some (.lst ds)
 |some (.nx _)=>some .non
 |_=>none
 else none
def fnN(np n:Nat)(f:FS):List D->Option (List D):=λds=>if ds.length=np then match f (stE n ds)with
 |some (.rn ds _)=>some ds
 |_=>none
 else none
def spF(G:Bg)(g:List D->Option D):Sp:=λvs H Q _=>∃H0 ds d,nR H0 H/\nM G H0 ds vs/\g ds=some d/\
 ∀v H0' H',nR H0 H0'->nR H0' H'->nR H H'->(∀b o,H0' b=some o->H0 b=some o\/H b=none)->Rep G H0' d v->Q v H'
def spN(G:Bg)(g:List D->Option (List D)):Sp:=λvs H Q _=>∃H0 ds d,nR H0 H/\nM G H0 ds vs/\g ds=some d/\
 ∀p xs H0' H',nR H0 H0'->nR H0' H'->nR H H'->(∀b o,H0' b=some o->H0 b=some o\/H b=none)->H p=none->H' p=some (.lst xs)->H0' p=none->nM G H0' d xs->Q (.ref p) H'
theorem vp{n:Nat}{i:Nat}{s:Sl}(h:(stE n ds)[i]?=some s):s=.un\/∃d,ds[i]?=some d/\s=.im d:=by
 unfold stE at h;by_cases hi:i<ds.length
 ·rw[cZ (by simpa using hi),bb,aS hi]at h;cases h;exact .inr ⟨_,aS hi,rfl⟩
 ·rw[dr (by simpa using hi),fX]at h;split at h
  ·cases h;exact .inl rfl
  ·cases h
theorem qR{i:Nat}{v:V}(h:vs[i]?=some v):((L2.start N vs)[i]?).join=some v:=by unfold L2.start;have hi:=(bo.mp h).1;rw[cZ (by simpa using hi),bb,h];rfl
theorem vZ{H:Hp}(s:nR H0 H)(r:nM G H0 ds vs)(hl:vs.length<=N.length):nY G ⟨H0,H,[]⟩ (L2.start N vs) (stE N.length ds) H0 H where
 sub:=s
 g0:=nR.refl _
 keep:=λb o e _=>e
 fr:=λb o e=>.inl e
 am:=λa h=>by cases h
 len:=by unfold L2.start stE;rw[aB,aB,ai,ai,bX,bX,nL r]
 sl:=λi t e=>by
  rcases vp e with rfl|⟨d,e1,rfl⟩
  ·trivial
  ·obtain⟨v,e2,e3⟩:=ra r e1;exact⟨v,qR e2,e3⟩
 ap:=λi j t u a _ e _ ht=>by rcases vp e with rfl|⟨d,_,rfl⟩<;>cases ht
theorem AL{n:Nat}{f:FS}(h:fnD np n f ds=some d):ds.length=np/\((∃ρ,f (stE n ds)=some (.rt d ρ))\/(∃xs ρ,f (stE n ds)=some (.rn xs ρ)/\d=.lst xs)\/∃ρ,f (stE n ds)=some (.nx ρ)/\d=.non):=by
 unfold fnD at h;split at h
 ·rename_i hl;refine⟨hl,?_⟩;split at h
  ·rename_i e;cases h;exact .inl ⟨_,e⟩
  ·rename_i e;cases h;exact .inr (.inl ⟨_,_,e,rfl⟩)
  ·rename_i e;cases h;exact .inr (.inr ⟨_,e,rfl⟩)
  ·cases h
 ·cases h
theorem AM{n:Nat}{f:FS}{xs:List D}(h:fnN np n f ds=some xs):ds.length=np/\∃ρ,f (stE n ds)=some (.rn xs ρ):=by
 unfold fnN at h;split at h
 ·rename_i hl;refine⟨hl,?_⟩;split at h
  ·rename_i e;cases h;exact⟨_,e⟩
  ·cases h
 ·cases h
end
variable{E:XK}
theorem HK{f:FS}{H:Hp}{Q:VK}(hN:np<=N.length)(h:spF G (fnD np N.length f) vs H Q E):tFS G f { nx:=λ_ H'=>Q .non H',rt:=Q } (L2.start N vs) H:=by
 obtain⟨H0,ds,d,s,r,e,k⟩:=h;obtain⟨hl,e'⟩:=AL e;clear e;have R:=vZ (N:=N) s r (by rw[<-nL r,hl];exact hN);have fin:∀{σ':St} {ρ':List Sl} {H0' H':Hp},nY G ⟨H0,H,[]⟩ σ' ρ' H0' H'->nR H H'/\nR H0' H'/\∀b o,H0' b=some o->H0 b=some o\/H b=none:=λR'=>⟨λb o e=>R'.keep b o e (by simp),R'.sub,R'.fr⟩;rcases e' with ⟨ρ,e⟩|⟨xs,ρ,e,rfl⟩|⟨ρ,e,rfl⟩
 ·refine⟨_,_,H0,_,R,e,λv σ' H0' H' s' R' rv=>?_,λ_=>rfl⟩;obtain⟨h1,h2,h3⟩:=fin R';exact k v H0' H' s' h2 h1 h3 rv
 ·refine⟨_,_,H0,_,R,e,λp ys σ' H0' H' s' R' hp h0 hb ap rs=>?_,λ_=>rfl⟩;have R2:=R'.freeze hp h0 hb ap;obtain⟨h1,h2,h3⟩:=fin R2;exact k _ _ H' (s'.trans (og h0 _)) h2 h1 h3 (sW nW (nM.mono (og h0 _) _ _ rs))
 ·refine⟨_,_,H0,_,R,e,λσ' H0' H' s' R'=>?_,λ_=>rfl⟩;obtain⟨h1,h2,h3⟩:=fin R';exact k _ H0' H' s' h2 h1 h3 vo
theorem HL{f:FS}{H:Hp}{Q:VK}(hN:np<=N.length)(h:spN G (fnN np N.length f) vs H Q E):tFS G f { nx:=λ_ H'=>Q .non H',rt:=Q } (L2.start N vs) H:=by obtain⟨H0,ds,d,s,r,e,k⟩:=h;obtain⟨hl,ρ,e⟩:=AM e;have R:=vZ (N:=N) s r (by rw[<-nL r,hl];exact hN);refine⟨_,_,H0,_,R,e,λp ys σ' H0' H' s' R' hp h0 hb ap rs=>?_,λ_=>rfl⟩;exact k p ys H0' H' s' R'.sub (λb o e=>R'.keep b o e (by simp)) R'.fr hb hp h0 rs
theorem N2{g:List D->Option D}(hg:∀ds d,g ds=some d->ds.length=np):∀vs H Q E,spF G g vs H Q E->vs.length=np:=λvs H Q E h=>by obtain⟨H0,ds,d,_,r,e,_⟩:=h;rw[<-nL r];exact hg _ _ e
theorem N3{g:List D->Option (List D)}(hg:∀ds d,g ds=some d->ds.length=np):∀vs H Q E,spN G g vs H Q E->vs.length=np:=λvs H Q E h=>by obtain⟨H0,ds,d,_,r,e,_⟩:=h;rw[<-nL r];exact hg _ _ e
theorem HM{n:Nat}{f:FS}:∀ds d,fnD np n f ds=some d->ds.length=np:=λ_ _ h=>(AL h).1
theorem HN{n:Nat}{f:FS}:∀ds d,fnN np n f ds=some d->ds.length=np:=λ_ _ h=>(AM h).1
def v7{α:Type}(g:List D->Option α)(a:FA):List Sl->Option (α×List Sl):=λρ=>match a ρ with
 |some (ds,ρ')=>match g ds with
  |some d=>some (d,ρ')
  |none=>none
 |none=>none
abbrev nN(g:List D->Option D)(a:FA):FE:=v7 g a
abbrev o6(g:List D->Option (List D))(a:FA):FA:=v7 g a
theorem sX{α:Type}{g:List D->Option α}{a:FA}{d:α}(h:v7 g a ρ=some (d,ρ')):∃ds,a ρ=some (ds,ρ')/\g ds=some d:=by
 unfold v7 at h;rcases n4 (f:=a) (ρ:=ρ)with e1|⟨ds,ρ1,e1⟩<;>simp only[e1]at h
 ·cases h
 ·cases e2:g ds with
  |none=>simp only[e2]at h;cases h
  |some x=>simp only[e2]at h;cases h;exact⟨ds,e1,e2⟩
variable{dvs:List V}{dds:List D}
section
variable{X:Cx}{G:Bg}
theorem HP{g:List D->Option D}{a:FA}(hd:∀H,nM G H dds dvs):∀σ H Q,tF G (nN (λds=>g (ds++dds)) a) σ H Q->uF (spF G g) dvs E (tFA G a) σ H Q:=λσ H Q hh=>by obtain⟨F,ρ,H0,d,ρ',R,e,k⟩:=hh;obtain⟨ds,e1,e2⟩:=sX e;refine⟨F,ρ,H0,ds,ρ',R,e1,λxs H1 H1' s R' rs=>⟨H1,ds++dds,d,R'.sub,pH rs (hd _),e2,λv H2 H2' s1 s2 s3 fr rv=>?_⟩⟩;exact k v H2 H2' (s.trans s1) (R'.grow s3 s1 s2 fr) rv
theorem HQ{g:List D->Option (List D)}{a:FA}(hd:∀H,nM G H dds dvs):∀σ H Q,tFN G (o6 (λds=>g (ds++dds)) a) σ H Q->uF (spN G g) dvs E (tFA G a) σ H Q:=λσ H Q hh=>by obtain⟨F,ρ,H0,d,ρ',R,e,k⟩:=hh;obtain⟨ds,e1,e2⟩:=sX e;refine⟨F,ρ,H0,ds,ρ',R,e1,λxs H1 H1' s R' rs=>⟨H1,ds++dds,d,R'.sub,pH rs (hd _),e2,λp ys H2 H2' s1 s2 s3 fr hn hp h0 rv=>?_⟩⟩;exact k p ys H2 H2' (s.trans s1) (R'.grow s3 s1 s2 fr) hp h0 (R'.bNone hn) (R'.apart hn) rv
end
variable{ff:FE}{ta:TE}{apos:Pos}{c:Nat}
section
variable{X:Cx}{G:Bg}
theorem HR{g:List D->Option D}{a:FA}(hd:∀H,nM G H dds dvs)(h:PE X e (uF (spF G g) dvs E (tFA G a))):PE X e (tF G (nN (λds=>g (ds++dds)) a)):=PE.weak h (HP hd)
theorem E7{g:List D->Option (List D)}{a:FA}(hd:∀H,nM G H dds dvs)(h:PE X e (uF (spN G g) dvs E (tFA G a))):PE X e (tFN G (o6 (λds=>g (ds++dds)) a)):=PE.weak h (HQ hd)
theorem E8{g:List D->Option D}(h:PE X e (uF (spF G g) [] E zI)):PE X e (tF G (nN g ox)):=PE.weak h λσ H Q hh=>by obtain⟨F,ρ,H0,d,ρ',R,e,k⟩:=hh;obtain⟨ds,e1,e2⟩:=sX e;cases e1;exact⟨H0,[],d,R.sub,ot,e2,λv H2 H2' s1 s2 s3 fr rv=>k v H2 H2' s1 (R.grow s3 s1 s2 fr) rv⟩
theorem DW{g:List D->Option (List D)}(h:PE X e (uF (spN G g) [] E zI)):PE X e (tFN G (o6 g ox)):=PE.weak h λσ H Q hh=>by obtain⟨F,ρ,H0,d,ρ',R,e,k⟩:=hh;obtain⟨ds,e1,e2⟩:=sX e;cases e1;exact⟨H0,[],d,R.sub,ot,e2,λp ys H2 H2' s1 s2 s3 fr hn hp h0 rv=>k p ys H2 H2' s1 (R.grow s3 s1 s2 fr) hp h0 (R.bNone hn) (R.apart hn) rv⟩
def DX:List Str->List D->Str->Option D
 |n::ns,d::ds,f=>if n=f then some d else DX ns ds f
 |_,_,_=>none
theorem za{H:Hp}:∀{ns:List Str} {ds:List D} {xs:List V} {f:Str} {d:D},nM G H ds xs->DX ns ds f=some d->∃v,(ns.zip xs).lookup f=some v/\Rep G H d v
 |[],ds,xs,f,d,r,e=>by simp[DX]at e
 |n::ns,[],xs,f,d,r,e=>by simp[DX]at e
 |n::ns,d'::ds,xs,f,d,r,e=>by
  unfold nM at r;obtain⟨v,q,rfl,h1,h2⟩:=r;unfold DX at e;by_cases hn:n=f
  ·rw[ag hn]at e;cases e;subst hn;exact⟨v,by simp[cD],h1⟩
  ·rw[ah hn]at e;obtain⟨w,e1,e2⟩:=za h2 e;refine⟨w,?_,e2⟩;have hb:(f==n)=false:=beq_eq_false_iff_ne.mpr λz=>hn z.symm;simp only[dw,cD,hb];exact e1
def n9(ok:Nat->Bool)(f:Str):D->Option D
 |.obj c ns ds=>if ok c=true then DX ns ds f else none
 |_=>none
theorem E9{f:Str}{ok:Nat->Bool}(he:PE X e (tF G ff))(hc:∀c,ok c=true->Cls X.K (G.ca c)/\rO X.K (G.ca c) f)(hb:d6 e f X.env (eval e X.env)=eval e X.env:=by rfl):PE X (.Attribute e f pos) (tF G (c1 (n9 ok f) ff)):=PE.weak (Kv he hb) λσ H Q hh=>by
 obtain⟨F,ρ,H0,d,ρ',R,e,k⟩:=hh;obtain⟨x,e1,e2⟩:=xp e;cases x with
 |obj c ns ds=>
  unfold n9 at e2;simp only at e2;split at e2
  ·rename_i hk;refine⟨F,ρ,H0,_,ρ',R,e1,λv H1 H1' s R' r=>?_⟩;unfold Rep at r;obtain⟨a,dx,xs,rfl,h1,h2,h3⟩:=r;obtain⟨w,l1,l2⟩:=za h3 e2;exact⟨a,_,dx,_,w,rfl,R'.sub _ _ h1,(hc c hk).1,(hc c hk).2,l1,k _ _ _ s R' l2⟩
  ·cases e2
 |_=>cases e2
def MOk(X:Cx)(C:Addr)(m:Str)(sp:Sp)(dvs:List V)(E:XK):Prop:=∃(k:Nat) (f:Addr) (fd:bu) (ps:List Str) (ds:List aa),Cls X.K C/\Meth X.K C m f/\qD X.prog X.w X.K X.mg X.base CX0 k f fd ps sp/\pf k X.A/\Binds X.K fd ps ds/\Vals dvs ds/\Passes CX0 X E
def qz(g:Nat->Option (List D->Option D))(m:Str)(f:FE)(a:FA):FE:=λρ=>match f ρ with
 |some (.obj c ns ds,ρ1)=>match g c with
  |some h=>if ns.contains m=true then none else match a ρ1 with
   |some (es,ρ2)=>match h (.obj c ns ds::es)with
    |some d=>some (d,ρ2)
    |none=>none
   |none=>none
  |none=>none
 |_=>none
theorem xQ{g:Nat->Option (List D->Option D)}{m:Str}{a:FA}(h:qz g m f a ρ=some (d,ρ')):
  ∃c ns ds ρ1 hh es,f ρ=some (.obj c ns ds,ρ1)/\g c=some hh/\ns.contains m=false/\a ρ1=some (es,ρ')/\hh (.obj c ns ds::es)=some d:=by
 unfold qz at h;split at h
 ·rename_i c ns ds ρ1 e1;cases e2:g c with
  |none=>simp only[e2]at h;cases h
  |some hh=>
   simp only[e2]at h;cases e3:ns.contains m with
   |true=>simp only[e3,if_true]at h;cases h
   |false=>
    simp only[e3,fD,if_false]at h;rcases n4 (f:=a) (ρ:=ρ1)with e4|⟨es,ρ2,e4⟩<;>simp only[e4]at h
    ·cases h
    ·cases e5:hh (.obj c ns ds::es)with
     |none=>simp only[e5]at h;cases h
     |some x=>simp only[e5]at h;cases h;exact⟨c,ns,ds,ρ1,hh,es,e1,e2,e3,e4,e5⟩
 ·cases h
theorem uV{m:Str}:∀{ns:List Str} {xs:List V},ns.contains m=false->(ns.zip xs).lookup m=none
 |[],xs,h=>rfl
 |n::ns,[],h=>rfl
 |n::ns,x::xs,h=>by rw[jP,jB]at h;simp only[dw,cD,h.1];exact uV h.2
theorem Fb{o:Expr}{t:TA}{m:Str}{pl:Sem Bool}(T:Addr->Sp->Prop)(hT:∀C sp,T C sp->MOk X C m sp dvs E)(he:PE X o ta)(ha:PA X (e::es) t)
  (hst:ar (e::es) X.env=(false,eval e X.env)::ar es X.env:=by rfl) (hpl:(aX pos (ar es X.env)).any (·.1)=false:=by rfl)
  (ht:eval (.Call (.Attribute o m apos) (e::es) [] pos) X.env=(do
   let ov<-eval o X.env
   standAt apos.atName
   let (f,first)<-holding [ov] (getMethod ov m pl)
   callWith pos f first (aX pos (ar (e::es) X.env)) (backToKw pos (dh [] X.env))):=by rfl):
  PE X (.Call (.Attribute o m apos) (e::es) [] pos) (λσ H Q=>ta σ H λx H1=>∃a C dx fs sp,x=.ref a/\H1 a=some (.ins C dx fs)/\T C sp/\fs.lookup m=none/\t σ H1 λvs H2=>sp (x::(vs++dvs)) H2 Q E):=by
 intro pins s σ H Q I h;refine kh (pl:=pl) (thn (he pins s σ H _ I h) λu s1 zz=>?_) ht;obtain⟨x,H1,I1,rx,a,C,dx,fs,sp,ex,ea,ht,l,q⟩:=zz;obtain⟨k,f,fd,ps,ds,c,hm,F,hr,hb,hd,hx⟩:=hT C sp ht;subst ex;obtain rfl:u=Value.ref a:=rx;refine xE I1 ea c hm l ?_;refine gu (first:=[.ref a]) (h₀:=X.base) I.ok.mod.kin hm.kp (thn (ha pos pins s1 σ H1 _ I1 q) λus s2 ⟨vs,H2,I2,r,q2⟩=>⟨I2.kIn,?_⟩) hst hpl;exact zJ (us:=.ref a::us) (vs:=.ref a::vs) F hr hb hd hx I2 (.cons rfl r) q2
theorem DY{o:Expr}{m:Str}{pl:Sem Bool}(T:Addr->Sp->Prop)(hT:∀C sp,T C sp->MOk X C m sp dvs E)(he:PE X o ta)
  (ht:eval (.Call (.Attribute o m apos) [] [] pos) X.env=(do
   let ov<-eval o X.env
   standAt apos.atName
   let (f,first)<-holding [ov] (getMethod ov m pl)
   callWith pos f first (aX pos (ar [] X.env)) (backToKw pos (dh [] X.env))):=by rfl):
  PE X (.Call (.Attribute o m apos) [] [] pos) (λσ H Q=>ta σ H λx H1=>∃a C dx fs sp,x=.ref a/\H1 a=some (.ins C dx fs)/\T C sp/\fs.lookup m=none/\sp (x::dvs) H1 Q E):=by
 intro pins s σ H Q I h;refine kh (pl:=pl) (thn (he pins s σ H _ I h) λu s1 zz=>?_) ht;obtain⟨x,H1,I1,rx,a,C,dx,fs,sp,ex,ea,ht,l,q⟩:=zz;obtain⟨k,f,fd,ps,ds,c,hm,F,hr,hb,hd,hx⟩:=hT C sp ht;subst ex;obtain rfl:u=Value.ref a:=rx;refine xE I1 ea c hm l ?_;exact kE (first:=[.ref a]) I1.kIn hm.kp (zJ (us:=[.ref a]) (vs:=[.ref a]) F hr hb hd hx I1 (.cons rfl .nil) q)
def MT(G:Bg)(g:Nat->Option (List D->Option D)):Addr->Sp->Prop:=λC sp=>∃c h,g c=some h/\C=G.ca c/\sp=spF G h
theorem HU{o:Expr}{a:FA}{m:Str}{g:Nat->Option (List D->Option D)}(h:PE X (.Call (.Attribute o m apos) (e::es) [] pos) (λσ H Q=>tF G f σ H λx H1=>∃a' C dx fs sp,x=.ref a'/\H1 a'=some (.ins C dx fs)/\MT G g C sp/\fs.lookup m=none/\tFA G a σ H1 λvs H2=>sp (x::(vs++[])) H2 Q E)):
  PE X (.Call (.Attribute o m apos) (e::es) [] pos) (tF G (qz g m f a)):=PE.weak h λσ H Q hh=>by
 obtain⟨F,ρ,H0,d,ρ',R,e,k⟩:=hh;obtain⟨c,ns,ds,ρ1,hh,es',e1,e2,e3,e4,e5⟩:=xQ e;refine⟨F,ρ,H0,_,ρ1,R,e1,λv H1 H1' s R' r=>?_⟩;have r0:=r;unfold Rep at r;obtain⟨a',dx,xs,rfl,h1,h2,h3⟩:=r;refine⟨a',_,dx,_,_,rfl,R'.sub _ _ h1,⟨c,hh,e2,rfl,rfl⟩,uV e3,F,ρ1,H1,es',ρ',R',e4,λys H2 H2' s2 R2 rs=>?_⟩;show spF G hh (V.ref a'::(ys++[])) H2' Q E;rw[bK];exact⟨H2,_,d,R2.sub,oB (Rep.mono s2 _ _ r0) rs,e5,λv H3 H3' t1 t2 t3 fr rv=>k v H3 H3' (s.trans (s2.trans t1)) (R2.grow t3 t1 t2 fr) rv⟩
theorem Fc{o:Expr}{m:Str}{g:Nat->Option (List D->Option D)}(h:PE X (.Call (.Attribute o m apos) [] [] pos) (λσ H Q=>tF G f σ H λx H1=>∃a' C dx fs sp,x=.ref a'/\H1 a'=some (.ins C dx fs)/\MT G g C sp/\fs.lookup m=none/\sp (x::[]) H1 Q E)):
  PE X (.Call (.Attribute o m apos) [] [] pos) (tF G (qz g m f ox)):=PE.weak h λσ H Q hh=>by
 obtain⟨F,ρ,H0,d,ρ',R,e,k⟩:=hh;obtain⟨c,ns,ds,ρ1,hh,es',e1,e2,e3,e4,e5⟩:=xQ e;cases e4;refine⟨F,ρ,H0,_,_,R,e1,λv H1 H1' s R' r=>?_⟩;have r0:=r;unfold Rep at r;obtain⟨a',dx,xs,rfl,h1,h2,h3⟩:=r;refine⟨a',_,dx,_,_,rfl,R'.sub _ _ h1,⟨c,hh,e2,rfl,rfl⟩,uV e3,?_⟩;exact⟨H1,_,d,R'.sub,oB r0 ot,e5,λv H3 H3' t1 t2 t3 fr rv=>k v H3 H3' (s.trans t1) (R'.grow t3 t1 t2 fr) rv⟩
def spI(G:Bg)(c:Nat)(g:List D->Option (List Str×List D)):Sp:=λvs H Q _=>∃(p dx:Addr) (us:List V) (H0:Hp) (ds:List D) (ns:List Str) (es:List D),vs=.ref p::us/\H p=some (.ins (G.ca c) dx [])/\H0 p=none/\nR H0 H/\nM G H0 ds us/\g ds=some (ns,es)/\
 ∀ys dx' H0' H',nR H0 H0'->nR H0' H'->(∀b o,H b=some o->b≠p->H' b=some o)->(∀b o,H0' b=some o->H0 b=some o\/H b=none)->H0' p=none->H' p=some (.ins (G.ca c) dx' (ns.zip ys))->ns.length=ys.length->nM G H0' es ys->Q .non H'
def nX(c:Nat)(g:List D->Option (List Str×List D))(a:FA):FE:=λρ=>match a ρ with
 |some (ds,ρ')=>match g ds with
  |some (ns,es)=>some (.obj c ns es,ρ')
  |none=>none
 |none=>none
theorem HV{g:List D->Option (List Str×List D)}{a:FA}(hd:∀H,nM G H dds dvs)(h:PE X e (Cf (G.ca c) (spI G c g) dvs E (tFA G a))):PE X e (tF G (nX c (λds=>g (ds++dds)) a)):=PE.weak h λσ H Q hh=>by
 obtain⟨F,ρ,H0,d,ρ',R,e,k⟩:=hh;unfold nX at e;rcases n4 (f:=a) (ρ:=ρ)with e1|⟨ds,ρ1,e1⟩<;>simp only[e1]at e
 ·cases e
 ·cases e2:g (ds++dds)with
  |none=>simp only[e2]at e;cases e
  |some q=>
   obtain⟨ns,es⟩:=q;simp only[e2]at e;cases e;refine⟨F,ρ,H0,ds,ρ',R,e1,λxs H1 H1' s R' rs x dx hx hdx ne=>?_⟩;have hx2:(upd H1' dx (.own x)) x=none:=by rw[nT (λz=>ne z.symm)];exact hx
   have sx:nR H1' (upd (upd H1' dx (.own x)) x (.ins (G.ca c) dx [])):=(og hdx _).trans (og hx2 _);refine⟨x,dx,_,H1,ds++dds,ns,es,rfl,nW,R'.h0none hx,R'.sub.trans sx,pH rs (hd _),e2,λys dx' H2 H2' t1 t2 t3 fr h0 hp hl ry=>⟨rfl,?_⟩⟩;have t4:nR H1' H2':=λb o e=>t3 b o (sx b o e) (pB e hx);have fr1:∀b o,H2 b=some o->H1 b=some o\/H1' b=none:=λb o e=>by
    rcases fr b o e with q|q
    ·exact .inl q
    ·cases z:H1' b with
     |none=>exact .inr rfl
     |some u=>rw[sx b u z]at q;cases q
   have R2:=R'.grow t4 t1 t2 fr1;have hb:F.B x=none:=R'.bNone hx;have R3:=R2.freeze hp h0 hb (λi t ei to z=>R'.apart hx i t ei to z);refine k _ _ _ (s.trans (t1.trans (og h0 _))) R3 ?_;unfold Rep;exact⟨x,dx',ys,rfl,nW,hl,nM.mono (og h0 _) _ _ ry⟩
def oA(c0:Nat)(i:Nat)(f:Str)(ff:FE):FS:=λρ=>match ff ρ with
 |some (d,ρ1)=>match ρ1[i]? with
  |some (.ob c ns ds)=>if c=c0 then if ns.contains f=true then none else if ds.length=ns.length then if ns.length<900 then some (.nx (ρ1.set i (.ob c (ns++[f]) (ds++[d]))))else none else none else none
  |_=>none
 |none=>none
theorem AN{f:Str}{v:V}:∀{ns:List Str} {xs:List V},ns.contains f=false->ns.length=xs.length->sG f v (ns.zip xs)=(ns++[f]).zip (xs++[v])
 |[],[],h,l=>rfl
 |[],x::xs,h,l=>by cases l
 |n::ns,[],h,l=>by cases l
 |n::ns,x::xs,h,l=>by
  rw[jP,jB]at h;have hn:¬n=f:=λz=>by rw[z]at h;simp at h
  have ih:=AN (f:=f) (v:=v) (ns:=ns) (xs:=xs) h.2 (by simpa using l);show sG f v ((n,x)::ns.zip xs)=_;rw[show sG f v ((n,x)::ns.zip xs)=(if n=f then (n,v)::ns.zip xs else (n,x)::sG f v (ns.zip xs)) from rfl,ah hn,ih];rfl
theorem HW{st:Stmt}{c0 i:Nat}{f:Str}(h:PS X st (NK X.K (sj i) (tF G ff) f))(hc:Cls X.K (G.ca c0)/\rO X.K (G.ca c0) f):PS X st (tFS G (oA c0 i f ff)):=PS.weak h λE σ H hh=>by
 obtain⟨F,ρ,H0,o,R,e,k,k2⟩:=hh;unfold oA at e;rcases n4 (f:=ff) (ρ:=ρ)with e1|⟨d,ρ1,e1⟩<;>simp only[e1]at e
 ·cases e
 ·split at e
  ·rename_i c ns ds e2;split at e
   ·rename_i hcc;subst hcc;split at e
    ·cases e
    rename_i hnc;split at e
    ·rename_i hl;split at e
     ·rename_i h9;cases e;refine⟨F,ρ,H0,d,ρ1,R,e1,λv H1 H1' s R' r=>?_⟩;obtain⟨a,dx,xs,e3,e4,e5,e6,e7,e8⟩:=R'.sl i _ e2;refine⟨_,qm e3,a,_,dx,_,rfl,e4,hc.1,hc.2,by rw[fL];omega,?_⟩;have hnf:ns.contains f=false:=by simpa using hnc
      rw[AN hnf e7];refine k _ _ _ s (R'.mut e2 rfl e3 (λH' hH=>?_) rfl);exact⟨a,dx,xs++[v],rfl,hH,e5,e6,by rw[aB,aB,e7];rfl,pH e8 (oB r ot)⟩
     ·cases e
    ·cases e
   ·cases e
  ·cases e
def stI(c n:Nat)(ds:List D):List Sl:=.ob c [] []::stE (n - 1) ds
def fnI(c np n:Nat)(f:FS):List D->Option (List Str×List D):=λds=>if ds.length=np then match f (stI c n ds)with
 |some (.nx ρ)=>match (ρ:List Sl)[0]? with
  |some (Sl.ob c' ns es)=>if c'=c then if ns.length=es.length then some (ns,es)else none else none
  |_=>none
 |_=>none
 else none
theorem xR{n:Nat}{f:FS}{q:List Str×List D}(h:fnI c np n f ds=some q):ds.length=np/\∃ρ,f (stI c n ds)=some (.nx ρ)/\ρ[0]?=some (.ob c q.1 q.2)/\q.1.length=q.2.length:=by
 unfold fnI at h;split at h
 ·rename_i hl;refine⟨hl,?_⟩;split at h
  ·rename_i ρ e;split at h
   ·rename_i c' ns es e2;split at h
    ·rename_i hc;split at h
     ·rename_i h3;subst hc;cases h;exact⟨ρ,e,e2,h3⟩
     ·cases h
    ·cases h
   ·cases h
  ·cases h
 ·cases h
theorem zW{f:FS}{H:Hp}{Q:VK}(hN:np+1<=N.length)(h:spI G c (fnI c np N.length f) vs H Q E):tFS G f { nx:=λ_ H'=>Q .non H',rt:=Q } (L2.start N vs) H:=by
 obtain⟨p,dx,us,H0,ds,ns,es,rfl,hp,h0,s,r,e,k⟩:=h;obtain⟨hl,ρ,e1,e2,e3⟩:=xR e;have hul:us.length=np:=by rw[<-nL r];exact hl
 have gets:∀{i:Nat} {t:Sl},(stI c N.length ds)[i]?=some t->(i=0/\t=.ob c [] [])\/t=.un\/∃(j:Nat) (d:D),i=j+1/\ds[j]?=some d/\t=.im d:=λ{i t} e=>by
  cases i with
  |zero=>cases e;exact .inl ⟨rfl,rfl⟩
  |succ j=>
   have e':(stE (N.length - 1) ds)[j]?=some t:=e;rcases vp e' with rfl|⟨d,e1,rfl⟩
   ·exact .inr (.inl rfl)
   ·exact .inr (.inr ⟨j,d,rfl,e1,rfl⟩)
 have R:nY G ⟨H0,H,[p]⟩ (L2.start N (.ref p::us)) (stI c N.length ds) H0 H:={
  sub:=s
  g0:=nR.refl _
  keep:=λb o e _=>e
  fr:=λb o e=>.inl e
  am:=λa ha=>by
   have ea:a=p:=by simpa using ha
   subst ea;exact⟨_,hp⟩
  len:=by unfold L2.start stI stE;simp only[aB,ai,bX,aE];have:=nL r;omega
  sl:=λi t e=>by
   rcases gets e with ⟨rfl,rfl⟩|rfl|⟨j,d,rfl,e1,rfl⟩
   ·exact⟨p,dx,[],qR rfl,hp,h0,by simp,rfl,ot⟩
   ·trivial
   ·obtain⟨v,e2,e3⟩:=ra r e1;exact⟨v,qR (by simpa using e2),e3⟩
  ap:=λi j t u a hij ei ej ht hu=>by
   rcases gets ei with ⟨rfl,rfl⟩|rfl|⟨_,_,_,_,rfl⟩
   ·rcases gets ej with ⟨rfl,rfl⟩|rfl|⟨_,_,_,_,rfl⟩
    ·exact ak rfl hij
    ·cases hu
    ·cases hu
   ·cases ht
   ·cases ht }
 refine⟨_,_,H0,_,R,e1,λσ' H0' H' s' R'=>?_,λ_=>rfl⟩;obtain⟨a,dx',ys,q1,q2,q3,q4,q5,q6⟩:=R'.sl 0 _ e2;have ea:a=p:=by simpa using q4
 subst ea;exact k ys dx' H0' H' s' R'.sub (λb o e n=>R'.keep b o e (by simpa using n)) R'.fr q3 q2 q5 q6
end
def Sl.L:Sl->Option (List D)
 |.ls ds=>some ds
 |.pm ds=>some ds
 |_=>none
def Sl.putL:Sl->List D->Sl
 |.pm _,ds=>.pm ds
 |_,ds=>.ls ds
theorem Sl.L_own{s:Sl}(h:s.L=some ds):s.own=true:=by cases s<;>first|rfl|cases h
theorem Sl.putL_L{s:Sl}:(s.putL ds).L=some ds:=by cases s<;>rfl
section
variable{G:Bg}{F:Fr}{σ:St}{ρ:List Sl}{H0 H:Hp}
theorem yM.lst{o:Option V}{s:Sl}{ds:List D}(h:yM G F H0 H o s)(e:s.L=some ds):∃a xs,o=some (.ref a)/\H a=some (.lst xs)/\H0 a=none/\nM G H0 ds xs:=by
 cases s with
 |ls ds'=>cases e;obtain⟨a,xs,h1,h2,h3,h4,h5⟩:=h;exact⟨a,xs,h1,h2,h3,h5⟩
 |pm ds'=>cases e;obtain⟨a,xs,h1,h2,h3,h4,h5⟩:=h;exact⟨a,xs,h1,h2,h3,h5⟩
 |_=>cases e
theorem nY.mutL(R:nY G F σ ρ H0 H){i:Nat}{s:Sl}{ds':List D}{xs':List V}(hi:ρ[i]?=some s)(hs:s.L=some ds)(ha:(σ[i]?).join=some (.ref a))(r:nM G H0 ds' xs'):
  nY G F σ (ρ.set i (s.putL ds')) H0 (upd H a (.lst xs')):=by
 have ok:=R.sl i s hi;rw[ha]at ok;refine R.mut hi (Sl.L_own hs) ha (λH' hH=>?_) (Sl.L_own Sl.putL_L);cases s with
 |ls ds0=>obtain⟨b,xs,h1,h2,h3,h4,h5⟩:=ok;cases h1;exact⟨a,xs',rfl,hH,h3,h4,r⟩
 |pm ds0=>obtain⟨b,xs,h1,h2,h3,h4,h5⟩:=ok;cases h1;exact⟨a,xs',rfl,hH,h3,h4,r⟩
 |_=>cases hs
end
def pd(ρ:List Sl)(i:Nat):Option (List D):=match ρ[i]? with
 |some s=>s.L
 |none=>none
theorem qS{i:Nat}(h:pd ρ i=some ds):∃s,ρ[i]?=some s/\s.L=some ds:=by
 unfold pd at h;cases e:ρ[i]? with
 |none=>rw[e]at h;cases h
 |some s=>rw[e]at h;exact⟨s,rfl,h⟩
def putAt(ρ:List Sl)(i:Nat)(ds:List D):List Sl:=match ρ[i]? with
 |some s=>ρ.set i (s.putL ds)
 |none=>ρ
def v8(i:Nat)(f:FE):FE:=λρ=>match pd ρ i with
 |some _=>match f ρ with
  |some (d,ρ1)=>match pd ρ1 i with
   |some ds=>if ds.length<1000 then some (.non,putAt ρ1 i (ds++[d]))else none
   |none=>none
  |none=>none
 |none=>none
section
variable{X:Cx}{G:Bg}
theorem pY{H:Hp}(R:nY G F σ ρ H0 H){i:Nat}(h:pd ρ i=some ds):∃a xs,σ[i]?=some (some (.ref a))/\H a=some (.lst xs)/\nM G H0 ds xs/\
  (∀ds' xs',nM G H0 ds' xs'->nY G F σ (putAt ρ i ds') H0 (upd H a (.lst xs'))):=by
 obtain⟨s,e1,e2⟩:=qS h;obtain⟨a,xs,e3,e4,e5,e6⟩:=(R.sl i s e1).lst e2;refine⟨a,xs,qm e3,e4,e6,λds' xs' r=>?_⟩;unfold putAt;rw[e1];exact R.mutL e1 e2 e3 r
theorem DZ{i:Nat}(h:PE X e (tBM G.K "list" zR (sj i) (tFA G (aCons f ox)))):PE X e (tF G (v8 i f)):=PE.weak h λσ H Q hh=>by
 obtain⟨F,ρ,H0,d,ρ',R,e,k⟩:=hh;unfold v8 at e;cases e0:pd ρ i with
 |none=>simp only[e0]at e;cases e
 |some ds0=>
  simp only[e0]at e;rcases n4 (f:=f) (ρ:=ρ)with e1|⟨x,ρ1,e1⟩<;>simp only[e1]at e
  ·cases e
  ·cases e2:pd ρ1 i with
   |none=>simp only[e2]at e;cases e
   |some ds=>
    simp only[e2]at e;split at e
    ·rename_i hl;cases e;obtain⟨a,xs,s1,s2,s3,_⟩:=pY R e0;refine⟨.ref a,s1,.inl ⟨rfl,xs,SqL.of s2⟩,F,ρ,H0,[x],ρ1,R,by unfold aCons;rw[e1];rfl,λys H1 H1' s R' rs=>?_⟩;unfold nM at rs;obtain⟨v,r0,rfl,rv,rn⟩:=rs;unfold nM at rn;subst rn;obtain⟨a',xs',t1,t2,t3,t4⟩:=pY R' e2;rw[s1]at t1;cases t1;exact⟨a,xs',v,rfl,rfl,t2,by rw[<-nL t3];exact uy (by omega),k _ _ _ s (t4 _ _ (pH t3 (oB rv ot))) vo⟩
    ·cases e
def HX(i:Nat)(f:FA):FE:=λρ=>match pd ρ i with
 |some _=>match f ρ with
  |some (es,ρ1)=>match pd ρ1 i with
   |some ds=>if ds.length+es.length<=1000 then some (.non,putAt ρ1 i (ds++es))else none
   |none=>none
  |none=>none
 |none=>none
theorem D1{i:Nat}{f:FA}(h:PE X e (tBM G.K "list" Cm (sj i) (xF (tFN G f) zI))):PE X e (tF G (HX i f)):=PE.weak h λσ H Q hh=>by
 obtain⟨F,ρ,H0,d,ρ',R,e,k⟩:=hh;unfold HX at e;cases e0:pd ρ i with
 |none=>simp only[e0]at e;cases e
 |some ds0=>
  simp only[e0]at e;rcases n4 (f:=f) (ρ:=ρ)with e1|⟨x,ρ1,e1⟩<;>simp only[e1]at e
  ·cases e
  ·cases e2:pd ρ1 i with
   |none=>simp only[e2]at e;cases e
   |some ds=>
    simp only[e2]at e;split at e
    ·rename_i hl;cases e;obtain⟨a,xs,s1,s2,s3,_⟩:=pY R e0;refine⟨.ref a,s1,.inl ⟨rfl,xs,SqL.of s2⟩,F,ρ,H0,x,ρ1,R,e1,λp ys H1 H1' s R' hp h0 hb ap rs=>?_⟩;obtain⟨a',xs',t1,t2,t3,t4⟩:=pY R' e2;rw[s1]at t1;cases t1;refine⟨a,p,xs',ys,rfl,rfl,t2,hp,?_,k _ _ _ s (t4 _ _ (pH t3 rs)) vo⟩;rw[<-nL t3,<- nL rs];exact qQ hl
    ·cases e
def Pl(i:Nat):FE:=λρ=>match pd ρ i with
 |some (d::ds)=>some (d,putAt ρ i ds)
 |_=>none
theorem vq{i:Int}(r:nM G H0 ds xs)(h:atI ds i=some d):∃v,atI xs i=some v/\Rep G H0 d v:=by
 unfold atI at h ⊢;rw[<-nL r];cases e:ixN ds.length i with
 |none=>rw[e]at h;cases h
 |some j=>rw[e]at h;exact ra r h
def tT(i:Nat)(f:FE):FE:=λρ=>match pd ρ i with
 |some _=>match f ρ with
  |some (.int j,ρ1)=>match pd ρ1 i with
   |some ds=>match atI ds j with
    |some d=>some (d,ρ1)
    |none=>none
   |none=>none
  |_=>none
 |none=>none
theorem K1{i:Nat}(h:PE X e (tOp (He G.K) (sj i) (tF G f))):PE X e (tF G (tT i f)):=PE.weak h λσ H Q hh=>by
 obtain⟨F,ρ,H0,d,ρ',R,e,k⟩:=hh;unfold tT at e;cases e9:pd ρ i with
 |none=>simp only[e9]at e;cases e
 |some ds9=>
  simp only[e9]at e;obtain⟨a9,xs9,ev,_⟩:=pY R e9;split at e
  ·rename_i j ρ1 e1;cases e0:pd ρ1 i with
   |none=>simp only[e0]at e;cases e
   |some ds=>
    simp only[e0]at e;cases e2:atI ds j with
    |none=>simp only[e2]at e;cases e
    |some x=>simp only[e2]at e;cases e;refine⟨.ref a9,ev,F,ρ,H0,_,_,R,e1,λu H1 H1' s R' r=>?_⟩;unfold Rep at r;subst r;obtain⟨a,xs,s1,s2,s3,s4⟩:=pY R' e0;rw[ev]at s1;cases s1;obtain⟨w,w1,w2⟩:=vq s3 e2;exact⟨_,xs,j,w,rfl,rfl,SqL.of s2,w1,k _ _ _ s R' w2⟩
  ·cases e
def cFz(i:Nat):FE:=λρ=>match ρ[i]? with
 |some (.ls ds)=>some (.lst ds,ρ.set i (.im (.lst ds)))
 |some (.dk ks ds)=>some (.dic ks ds,ρ.set i (.im (.dic ks ds)))
 |some (.im d)=>some (d,ρ)
 |_=>none
theorem nY.toIm{H:Hp}(R:nY G F σ ρ H0 H){i:Nat}{s:Sl}{o:HO}(hi:ρ[i]?=some s)(hs:(σ[i]?).join=some (.ref p))(so:s.own=true)(hp:H p=some o)(h0:H0 p=none)(hb:F.B p=none)(r:Rep G (upd H0 p o) d (.ref p)):
  nY G F σ (ρ.set i (.im d)) (upd H0 p o) H where
 sub:=λb u e=>by
  by_cases hb:b=p
  ·subst hb;rw[nW]at e;cases e;exact hp
  ·rw[nT hb]at e;exact R.sub _ _ e
 g0:=R.g0.trans (og h0 o)
 keep:=R.keep
 fr:=λb u e=>by
  by_cases hb':b=p
  ·subst hb';exact .inr hb
  ·rw[nT hb']at e;exact R.fr _ _ e
 am:=R.am
 len:=by rw[dc];exact R.len
 sl:=λj t e=>by
  rw[bE]at e;by_cases h:i=j
  ·subst h;rw[ag rfl]at e;split at e
   ·cases e;exact⟨_,hs,r⟩
   ·cases e
  ·rw[ah h]at e;refine(R.sl j t e).grow (og h0 o) (λa u _ _ q=>q) λa u z to q q0=>?_;rw[nT (λy=>by subst y;exact R.ap j i t s a (λy=>h y.symm) e hi to so z hs)];exact q0
 ap:=λj k t u b hjk ej ek tj tk vj vk=>by
  have gen:∀{m:Nat} {x:Sl},(ρ.set i (.im d))[m]?=some x->x.own=true->ρ[m]?=some x:=λ{m x} e xo=>by
   rw[bE]at e;by_cases h:i=m
   ·subst h;rw[ag rfl]at e;split at e
    ·cases e;cases xo
    ·cases e
   ·rw[ah h]at e;exact e
  exact R.ap j k t u b hjk (gen ej tj) (gen ek tk) tj tk vj vk
theorem nY.toImD{H:Hp}(R:nY G F σ ρ H0 H){i:Nat}{s:Sl}{o:HO}(hi:ρ[i]?=some s)(hs:(σ[i]?).join=some (.ref p))(so:s.own=true)(h0:H0 p=none)(hb:F.B p=none)(r:Rep G (upd H0 p o) d (.ref p)):
  nY G F σ (ρ.set i (.im d)) (upd H0 p o) (upd H p o) where
 sub:=λb u e=>by
  by_cases hb:b=p
  ·subst hb;rw[nW]at e ⊢;exact e
  ·rw[nT hb]at e ⊢;exact R.sub _ _ e
 g0:=R.g0.trans (og h0 o)
 keep:=λb u e n=>by rw[nT (λz=>by subst z;rw[hb]at e;cases e)];exact R.keep b u e n
 fr:=λb u e=>by
  by_cases hb':b=p
  ·subst hb';exact .inr hb
  ·rw[nT hb']at e;exact R.fr _ _ e
 am:=λb hm=>by
  by_cases hb':b=p
  ·subst hb';exact⟨o,nW⟩
  ·rw[nT hb'];exact R.am b hm
 len:=by rw[dc];exact R.len
 sl:=λj t e=>by
  rw[bE]at e;by_cases h:i=j
  ·subst h;rw[ag rfl]at e;split at e
   ·cases e;exact⟨_,hs,r⟩
   ·cases e
  ·rw[ah h]at e;refine(R.sl j t e).grow (og h0 o) (λa u z to q=>?_) λa u z to q q0=>?_
   ·rw[nT (λy=>by subst y;exact R.ap j i t s a (λy=>h y.symm) e hi to so z hs)];exact q
   ·rw[nT (λy=>by subst y;exact R.ap j i t s a (λy=>h y.symm) e hi to so z hs)];exact q0
 ap:=λj k t u b hjk ej ek tj tk vj vk=>by
  have gen:∀{m:Nat} {x:Sl},(ρ.set i (.im d))[m]?=some x->x.own=true->ρ[m]?=some x:=λ{m x} e xo=>by
   rw[bE]at e;by_cases h:i=m
   ·subst h;rw[ag rfl]at e;split at e
    ·cases e;cases xo
    ·cases e
   ·rw[ah h]at e;exact e
  exact R.ap j k t u b hjk (gen ej tj) (gen ek tk) tj tk vj vk
theorem N4{i:Nat}(h:PE X e (sj i)):PE X e (tF G (cFz i)):=PE.weak (PE.ghost h) λσ H Q hh=>by
 obtain⟨F,ρ,H0,d,ρ',R,e,k⟩:=hh;unfold cFz at e;split at e
 ·rename_i ds e0;cases e;obtain⟨a,xs,h1,h2,h3,h4,h5⟩:=R.sl i _ e0;have rr:Rep G (upd H0 a (.lst xs)) (.lst ds) (.ref a):=sW nW (nM.mono (og h3 _) _ _ h5);exact⟨_,qm h1,.inl (k _ _ _ (og h3 _) (R.toIm e0 h1 rfl h2 h3 h4 rr) rr)⟩
 ·rename_i ks ds e0;cases e;obtain⟨a,xs,h1,h2,h3,h4,h5,h6⟩:=R.sl i _ e0;refine⟨_,qm h1,.inr ⟨a,_,h2,λo=>?_⟩⟩;have rr:Rep G (upd H0 a (.frz o (.dK (ks.zip xs)))) (.dic ks ds) (.ref a):=by unfold Rep;exact⟨a,o,xs,rfl,nW,h5,nM.mono (og h3 _) _ _ h6⟩
  exact k _ _ _ (og h3 _) (R.toImD e0 h1 rfl h3 h4 rr) rr
 ·rename_i d' e0;cases e;obtain⟨v,e2,e3⟩:=R.sl i _ e0;exact⟨v,qm e2,.inl (k _ _ _ (nR.refl _) R e3)⟩
 ·cases e
def Fd(i:Nat):FA:=λρ=>match ρ[i]? with
 |some (.ls ds)=>some (ds,ρ.set i .un)
 |_=>none
theorem HY{i:Nat}(h:PE X e (sj i)):PE X e (tFN G (Fd i)):=PE.weak h λσ H Q hh=>by
 obtain⟨F,ρ,H0,d,ρ',R,e,k⟩:=hh;unfold Fd at e;split at e
 ·rename_i ds e0;cases e;obtain⟨a,xs,h1,h2,h3,h4,h5⟩:=R.sl i _ e0;have gen:∀{m:Nat} {x:Sl},(ρ.set i .un)[m]?=some x->x.own=true->m≠i/\ρ[m]?=some x:=λ{m x} e xo=>by
   rw[bE]at e;by_cases h:i=m
   ·subst h;rw[ag rfl]at e;split at e
    ·cases e;cases xo
    ·cases e
   ·rw[ah h]at e;exact⟨λz=>h z.symm,e⟩
  have R':nY G F σ (ρ.set i .un) H0 H:={
   sub:=R.sub,g0:=R.g0,keep:=R.keep,fr:=R.fr,am:=R.am
   len:=by rw[dc];exact R.len
   sl:=λj t e=>by
    rw[bE]at e;by_cases h:i=j
    ·subst h;rw[ag rfl]at e;split at e
     ·cases e;trivial
     ·cases e
    ·rw[ah h]at e;exact R.sl j t e
   ap:=λj k t u b hjk ej ek tj tk vj vk=>R.ap j k t u b hjk (gen ej tj).2 (gen ek tk).2 tj tk vj vk }
  refine⟨_,qm h1,k a xs _ _ (nR.refl _) R' h2 h3 h4 (λj t ej to z=>?_) h5⟩;obtain⟨nj,ej'⟩:=gen ej to;exact R.ap j i t _ a nj ej' e0 to rfl z h1
 ·cases e
end
def spM(G:Bg)(g:List D->List D->Option (D×List D)):Sp:=λvs H Q _=>∃(a:Addr) (us xs:List V) (H0:Hp) (es ds:List D) (d:D) (es':List D),vs=.ref a::us/\H a=some (.lst xs)/\H0 a=none/\nR H0 H/\nM G H0 es xs/\nM G H0 ds us/\g es ds=some (d,es')/\
 ∀v xs' H0' H',nR H0 H0'->nR H0' H'->(∀b o,H b=some o->b≠a->H' b=some o)->(∀b o,H0' b=some o->H0 b=some o\/H b=none)->H0' a=none->H' a=some (.lst xs')->nM G H0' es' xs'->Rep G H0' d v->Q v H'
def stM(n:Nat)(es ds:List D):List Sl:=.pm es::stE (n - 1) ds
def vt(ρ:List Sl):Option (List D):=match ρ with
 |.pm es::_=>some es
 |_=>none
def fnM(np n:Nat)(f:FS):List D->List D->Option (D×List D):=λes ds=>if ds.length=np then match f (stM n es ds)with
 |some (.rt d ρ)=>match vt ρ with
  |some es'=>some (d,es')
  |none=>none
 |some (.rn xs ρ)=>match vt ρ with
  |some es'=>some (.lst xs,es')
  |none=>none
 |_=>none
 else none
theorem xS{es:List D}(h:vt ρ=some es):ρ[0]?=some (.pm es):=by
 unfold vt at h;split at h
 ·cases h;rfl
 ·cases h
variable{es':List D}
theorem AO{n:Nat}{f:FS}{es:List D}(h:fnM np n f es ds=some (d,es')):ds.length=np/\((∃ρ,f (stM n es ds)=some (.rt d ρ)/\ρ[0]?=some (.pm es'))\/∃xs ρ,f (stM n es ds)=some (.rn xs ρ)/\ρ[0]?=some (.pm es')/\d=.lst xs):=by
 unfold fnM at h;split at h
 ·rename_i hl;refine⟨hl,?_⟩;split at h
  ·rename_i x ρ e;cases e2:vt ρ with
   |none=>simp only[e2]at h;cases h
   |some q=>simp only[e2]at h;cases h;exact .inl ⟨ρ,e,xS e2⟩
  ·rename_i x ρ e;cases e2:vt ρ with
   |none=>simp only[e2]at h;cases h
   |some q=>simp only[e2]at h;cases h;exact .inr ⟨x,ρ,e,xS e2,rfl⟩
  ·cases h
 ·cases h
section
variable{X:Cx}{G:Bg}
theorem HZ{f:FS}{H:Hp}{Q:VK}(hN:np+1<=N.length)(h:spM G (fnM np N.length f) vs H Q E):tFS G f { nx:=λ_ H'=>Q .non H',rt:=Q } (L2.start N vs) H:=by
 obtain⟨a,us,xs,H0,es,ds,d,es',rfl,ha,h0,s,r1,r,e,k⟩:=h;obtain⟨hl,e1⟩:=AO e;have hul:us.length=np:=by rw[<-nL r];exact hl
 have gets:∀{i:Nat} {t:Sl},(stM N.length es ds)[i]?=some t->(i=0/\t=.pm es)\/t=.un\/∃(j:Nat) (d:D),i=j+1/\ds[j]?=some d/\t=.im d:=λ{i t} e=>by
  cases i with
  |zero=>cases e;exact .inl ⟨rfl,rfl⟩
  |succ j=>
   have e':(stE (N.length - 1) ds)[j]?=some t:=e;rcases vp e' with rfl|⟨d,e1,rfl⟩
   ·exact .inr (.inl rfl)
   ·exact .inr (.inr ⟨j,d,rfl,e1,rfl⟩)
 have R:nY G ⟨H0,H,[a]⟩ (L2.start N (.ref a::us)) (stM N.length es ds) H0 H:={
  sub:=s
  g0:=nR.refl _
  keep:=λb o e _=>e
  fr:=λb o e=>.inl e
  am:=λb hb=>by
   have eb:b=a:=by simpa using hb
   subst eb;exact⟨_,ha⟩
  len:=by unfold L2.start stM stE;simp only[aB,ai,bX,aE];have:=nL r;omega
  sl:=λi t e=>by
   rcases gets e with ⟨rfl,rfl⟩|rfl|⟨j,d,rfl,e1,rfl⟩
   ·exact⟨a,xs,qR rfl,ha,h0,by simp,r1⟩
   ·trivial
   ·obtain⟨v,e2,e3⟩:=ra r e1;exact⟨v,qR (by simpa using e2),e3⟩
  ap:=λi j t u b hij ei ej ht hu=>by
   rcases gets ei with ⟨rfl,rfl⟩|rfl|⟨_,_,_,_,rfl⟩
   ·rcases gets ej with ⟨rfl,rfl⟩|rfl|⟨_,_,_,_,rfl⟩
    ·exact ak rfl hij
    ·cases hu
    ·cases hu
   ·cases ht
   ·cases ht }
 have fin:∀{v:V} {σ':St} {ρ':List Sl} {H0' H':Hp},nR H0 H0'->nY G ⟨H0,H,[a]⟩ σ' ρ' H0' H'->ρ'[0]?=some (.pm es')->Rep G H0' d v->Q v H':=λs' R' e2 rv=>by
  obtain⟨a',ys,q1,q2,q3,q4,q5⟩:=R'.sl 0 _ e2;have ea:a'=a:=by simpa using q4
  subst ea;exact k _ ys _ _ s' R'.sub (λb o e n=>R'.keep b o e (by simpa using n)) R'.fr q3 q2 q5 rv
 rcases e1 with ⟨ρ,e1,e2⟩|⟨zs,ρ,e1,e2,rfl⟩
 ·exact⟨_,_,H0,_,R,e1,λv σ' H0' H' s' R' rv=>fin s' R' e2 rv,λ_=>rfl⟩
 ·refine⟨_,_,H0,_,R,e1,λp ys σ' H0' H' s' R' hp hp0 hb ap rs=>?_,λ_=>rfl⟩;exact fin (s'.trans (og hp0 _)) (R'.freeze hp hp0 hb ap) e2 (sW nW (nM.mono (og hp0 _) _ _ rs))
theorem N5{g:List D->List D->Option (D×List D)}(hg:∀es ds d,g es ds=some d->ds.length=np):∀vs H Q E,spM G g vs H Q E->vs.length=np+1:=λvs H Q E h=>by obtain⟨a,us,xs,H0,es,ds,d,es',rfl,_,_,_,_,r,e,_⟩:=h;rw[aE,<- nL r,hg _ _ _ e]
theorem Ia{n:Nat}{f:FS}:∀es ds d,fnM np n f es ds=some d->ds.length=np:=λ_ _ d h=>(AO (d:=d.1) (es':=d.2) h).1
theorem nY.call1{H:Hp}(R:nY G F σ ρ H0 H){i:Nat}{s:Sl}{es:List D}{b:Addr}{zs:List V}(hi:ρ[i]?=some s)(hs:s.L=some es)(hb:(σ[i]?).join=some (.ref b))
  (s1:nR H0 H0') (s2:nR H0' H') (s3:∀c o,H c=some o->c≠b->H' c=some o) (fr:∀c o,H0' c=some o->H0 c=some o\/H c=none) (h0:H0' b=none) (hz:H' b=some (.lst zs)) (r:nM G H0' es' zs):
  nY G F σ (ρ.set i (s.putL es')) H0' H':=by
 have so:=Sl.L_own hs;obtain⟨b',u,e1,e2,e3,e4⟩:=(R.sl i s hi).at so;rw[hb]at e1;cases e1;exact {
  sub:=s2
  g0:=R.g0.trans s1
  keep:=λc o e n=>by
   refine s3 c o (R.keep c o e n) λz=>?_;subst z;rcases e4 with q|q
   ·rw[q]at e;cases e
   ·exact n q
  fr:=λc o e=>by
   rcases fr c o e with q|q
   ·exact R.fr c o q
   ·exact .inr (R.bNone q)
  am:=λc hc=>by
   by_cases z:c=b
   ·subst z;exact⟨_,hz⟩
   ·obtain⟨o,q⟩:=R.am c hc;exact⟨o,s3 c o q z⟩
  len:=by rw[dc];exact R.len
  sl:=λj t e=>by
   rw[bE]at e;by_cases h:i=j
   ·subst h;rw[ag rfl]at e;split at e
    ·cases e;rw[hb];have ok:=R.sl i s hi;rw[hb]at ok;cases s with
     |ls ds0=>obtain⟨c,xs,h1,h2,h3,h4,h5⟩:=ok;cases h1;exact⟨b,zs,rfl,hz,h0,h4,r⟩
     |pm ds0=>obtain⟨c,xs,h1,h2,h3,h4,h5⟩:=ok;cases h1;exact⟨b,zs,rfl,hz,h0,h4,r⟩
     |_=>cases hs
    ·cases e
   ·rw[ah h]at e;refine(R.sl j t e).grow s1 (λc w z to q=>s3 c w q λy=>?_) λc w z to q q0=>?_
    ·subst y;exact R.ap j i t s c (λy=>h y.symm) e hi to so z hb
    ·cases y:H0' c with
     |none=>rfl
     |some o=>
      rcases fr c o y with x|x
      ·rw[x]at q0;cases q0
      ·rw[x]at q;cases q
  ap:=λj k t u c hjk ej ek tj tk vj vk=>by
   have gen:∀{m:Nat} {x:Sl},(ρ.set i (s.putL es'))[m]?=some x->∃y,ρ[m]?=some y/\(x.own=true->y.own=true):=λ{m x} e=>by
    rw[bE]at e;by_cases h:i=m
    ·subst h;exact⟨s,hi,λ_=>so⟩
    ·rw[ah h]at e;exact⟨x,e,λq=>q⟩
   obtain⟨y,ey,oy⟩:=gen ej;obtain⟨z,ez,oz⟩:=gen ek;exact R.ap j k y z c hjk ey ez (oy tj) (oz tk) vj vk }
def rZ(g:List D->List D->Option (D×List D))(i:Nat)(a:FA):FE:=λρ=>match pd ρ i with
 |some _=>match a ρ with
  |some (ds,ρ1)=>match pd ρ1 i with
   |some es=>match g es ds with
    |some (d,es')=>some (d,putAt ρ1 i es')
    |none=>none
   |none=>none
  |none=>none
 |none=>none
theorem K2{g:List D->List D->Option (D×List D)}{i:Nat}{a:FA}(h:PE X e (uF (spM G g) [] E (xF (sj i) (tFA G a)))):PE X e (tF G (rZ g i a)):=PE.weak h λσ H Q hh=>by
 obtain⟨F,ρ,H0,d,ρ',R,e,k⟩:=hh;unfold rZ at e;cases e0:pd ρ i with
 |none=>simp only[e0]at e;cases e
 |some ds0=>
  simp only[e0]at e;rcases n4 (f:=a) (ρ:=ρ)with e1|⟨ds,ρ1,e1⟩<;>simp only[e1]at e
  ·cases e
  ·cases e2:pd ρ1 i with
   |none=>simp only[e2]at e;cases e
   |some es=>
    simp only[e2]at e;cases e3:g es ds with
    |none=>simp only[e3]at e;cases e
    |some q=>
     obtain⟨d1,es'⟩:=q;simp only[e3]at e;cases e;obtain⟨b,xs,s1,s2,s3,_⟩:=pY R e0;refine⟨.ref b,s1,F,ρ,H0,ds,ρ1,R,e1,λys H1 H1' s R' rs=>?_⟩;obtain⟨s,es0,es1⟩:=qS e2;obtain⟨b',xs',t1,t2,t3,t4⟩:=(R'.sl i s es0).lst es1;rw[qm t1]at s1;cases s1;refine⟨b,ys,xs',H1,es,ds,d,es',?_,t2,t3,R'.sub,t4,rs,e3,λv zs H2 H2' u1 u2 u3 fr w0 w1 w2 w3=>?_⟩
     ·show V.ref b::ys++[]=_;rw[bK]
     ·refine k _ _ _ (nR.trans ‹nR H0 H1› u1) ?_ w3;unfold putAt;rw[es0];exact R'.call1 es0 es1 t1 u1 u2 u3 fr w0 w1 w2
def Walk(G:Bg)(J:It)(ds:List D)(H0:Hp):Prop:=∀(i:Nat) (H1 H1':Hp),nR H0 H1->nR H1 H1'->
 (∀d,ds[i]?=some d->J.go i H1'/\∀x H2',J.yld i H1' x H2'->∃H2,nR H1 H2/\nR H2 H2'/\nR H1' H2'/\(∀b o,H2 b=some o->H1 b=some o\/H1' b=none)/\Rep G H2 d x)/\(i=ds.length->J.stop i H1')
def tFI(G:Bg)(f:FA):TI:=λσ H R=>∃F ρ H0 ds ρ',nY G F σ ρ H0 H/\f ρ=some (ds,ρ')/\∀J H0' H',nR H0 H0'->nY G F σ ρ' H0' H'->Walk G J ds H0'->R J H'
theorem PI.weak{t t':TI}(h:PI X tg e t)(w:∀σ H R,t' σ H R->t σ H R):PI X tg e t':=λpins s σ H R I hq=>h pins s σ H R I (w _ _ _ hq)
theorem xT(h:SqL G.K H0 a xs)(r:nM G H0 ds xs):Walk G (Itl G.K a) ds H0:=λi H1 H1' s s'=>by have h1:SqL G.K H1' a xs:=(s.trans s').seq h;refine⟨λd e=>?_,λhl=>⟨xs,h1,by rw[<-nL r,hl];exact aC _⟩⟩;obtain⟨v,e1,e2⟩:=ra r e;refine⟨⟨xs,v,h1,e1⟩,λx H2' y=>?_⟩;obtain⟨e3,e4⟩:=y;have e5:=e4 xs h1;rw[e1]at e5;cases e5;subst e3;exact⟨H1,nR.refl _,s',nR.refl _,λb o e=>.inl e,Rep.mono s _ _ e2⟩
theorem Fe(h:SqT G.K H0 a xs)(r:nM G H0 ds xs):Walk G (Itt G.K a) ds H0:=λi H1 H1' s s'=>by have h1:SqT G.K H1' a xs:=SqT.mono (s.trans s') h;refine⟨λd e=>?_,λhl=>⟨xs,h1,by rw[<-nL r,hl];exact aC _⟩⟩;obtain⟨v,e1,e2⟩:=ra r e;refine⟨⟨xs,v,h1,e1⟩,λx H2' y=>?_⟩;obtain⟨e3,e4⟩:=y;have e5:=e4 xs h1;rw[e1]at e5;cases e5;subst e3;exact⟨H1,nR.refl _,s',nR.refl _,λb o e=>.inl e,Rep.mono s _ _ e2⟩
def iL(f:FE):FA:=λρ=>match f ρ with
 |some (.lst ds,ρ')=>some (ds,ρ')
 |some (.fzl ds,ρ')=>some (ds,ρ')
 |_=>none
def iT(f:FE):FA:=λρ=>match f ρ with
 |some (.tup ds,ρ')=>some (ds,ρ')
 |_=>none
theorem AQ(h:PI X tg e (Ew G.K (tF G f))):PI X tg e (tFI G (iL f)):=PI.weak h λσ H R hh=>by
 obtain⟨F,ρ,H0,ds,ρ',R,e,k⟩:=hh;unfold iL at e;split at e
 ·rename_i ds' ρ1 e1;cases e;refine⟨F,ρ,H0,_,_,R,e1,λv H1 H1' s R' r=>?_⟩;unfold Rep at r;obtain⟨a,xs,rfl,r1,r2⟩:=r;exact⟨a,rfl,⟨xs,R'.sub.seq (SqL.of r1)⟩,k _ _ _ s R' (xT (SqL.of r1) r2)⟩
 ·rename_i ds' ρ1 e1;cases e;refine⟨F,ρ,H0,_,_,R,e1,λv H1 H1' s R' r=>?_⟩;unfold Rep at r;obtain⟨a,xs,rfl,r1,r2⟩:=r;exact⟨a,rfl,⟨xs,R'.sub.seq r1⟩,k _ _ _ s R' (xT r1 r2)⟩
 ·cases e
theorem Ib(h:PI X tg e (Kl G.K (tF G f))):PI X tg e (tFI G (iT f)):=PI.weak h λσ H R hh=>by
 obtain⟨F,ρ,H0,ds,ρ',R,e,k⟩:=hh;unfold iT at e;split at e
 ·rename_i ds' ρ1 e1;cases e;refine⟨F,ρ,H0,_,_,R,e1,λv H1 H1' s R' r=>?_⟩;unfold Rep at r;obtain⟨a,xs,rfl,r1,r2⟩:=r;exact⟨a,rfl,⟨xs,SqT.mono R'.sub r1⟩,k _ _ _ s R' (Fe r1 r2)⟩
 ·cases e
def uW(lo:Int)(n:Nat):List D:=(aO n).map λ(i:Nat)=>D.int (lo+(i:Int))
theorem AR{lo:Int}{n:Nat}:Walk G (Itr lo n) (uW lo n) H0:=λi H1 H1' s s'=>by
 refine⟨λd e=>?_,λhl=>by show n<=i;rw[hl];simp[uW]⟩;unfold uW at e;rw[bb]at e;by_cases hi:i<n
 ·rw[hJ hi]at e;cases e;refine⟨hi,λx H2' y=>?_⟩;obtain⟨e3,rfl⟩:=y;subst e3;exact⟨H1,nR.refl _,s',nR.refl _,λb o e=>.inl e,pK _⟩
 ·rw[f7 (by simpa using hi)]at e;cases e
def iR1(f:FE):FA:=λρ=>match f ρ with
 |some (.int n,ρ')=>if -1000000<=n/\n<=1000000 then some (uW 0 n.toNat,ρ')else none
 |_=>none
theorem BF(h:PI X tg e (Jr (tFA G (aCons f ox)))):PI X tg e (tFI G (iR1 f)):=PI.weak h λσ H R hh=>by
 obtain⟨F,ρ,H0,ds,ρ',R,e,k⟩:=hh;unfold iR1 at e;split at e
 ·rename_i n ρ1 e1;split at e
  ·rename_i hn;cases e;refine⟨F,ρ,H0,[.int n],_,R,by unfold aCons;rw[e1];rfl,λxs H1 H1' s R' rs=>?_⟩;unfold nM at rs;obtain⟨v,r0,rfl,rv,rn⟩:=rs;unfold nM at rn;unfold Rep at rv;subst rn rv;exact⟨n,rfl,by omega,by omega,k _ _ _ s R' AR⟩
  ·cases e
 ·cases e
def forL(g:FG)(b:FS):List D->FS
 |[],ρ=>some (.nx ρ)
 |d::r,ρ=>match g d ρ with
  |none=>none
  |some ρ1=>match b ρ1 with
   |some (.nx ρ2)=>forL g b r ρ2
   |some (.ct ρ2)=>forL g b r ρ2
   |some (.bk ρ2)=>some (.nx ρ2)
   |some (.rt d ρ2)=>some (.rt d ρ2)
   |some (.rn d ρ2)=>some (.rn d ρ2)
   |none=>none
def tU(s:FA)(g:FG)(b:FS):FS:=λρ=>match s ρ with
 |some (ds,ρ')=>forL g b ds ρ'
 |none=>none
theorem Ie{st:Stmt}{n:Nat}{s:FA}{g:FG}{b:FS}(h:PS X st (Kn (tFI G s) (tFG G n g) (tFS G b))):PS X st (tFS G (tU s g b)):=PS.weak h λE σ H hh=>by
 obtain⟨F,ρ,H0,o,R,e,k,k2⟩:=hh;unfold tU at e;rcases n4 (f:=s) (ρ:=ρ)with e1|⟨ds,ρ1,e1⟩<;>simp only[e1]at e
 ·cases e
 ·refine⟨F,ρ,H0,ds,ρ1,R,e1,λJ H1 H1' s1 R1 wk=>?_⟩;refine⟨λi m σ H=>m=ds.length - i/\i<=ds.length/\∃ρi Hi,nR H1 Hi/\nY G F σ ρi Hi H/\forL g b (ds.drop i) ρi=some o,⟨_,rfl,b8 _,ρ1,H1,nR.refl _,R1,e⟩,?_⟩;rintro i m σi Hi' ⟨rfl,hi,ρi,Hi,si,Ri,ei⟩;by_cases hlt:i<ds.length
  ·have ed:ds.drop i=ds[i]::ds.drop (i+1):=gU hlt;rw[ed]at ei;unfold forL at ei;obtain⟨go,yl⟩:=(wk i Hi Hi' si Ri.sub).1 ds[i] (aS hlt);refine .inr ⟨go,λσ' H'=>∃ρi Hi,nR H1 Hi/\nY G F σ' ρi Hi H'/\forL g b (ds.drop (i+1)) ρi=some o,λσ' H' q=>⟨ds.length - (i+1),by omega,rfl,hlt,q⟩,λx H' y=>?_⟩;obtain⟨H2,t1,t2,t3,t4,t5⟩:=yl x H' y;have R2:=Ri.grow t3 t1 t2 t4;cases e2:g ds[i] ρi with
   |none=>simp only[e2]at ei;cases ei
   |some ρ2=>
    simp only[e2]at ei;refine⟨F,ρi,H2,_,ρ2,R2,t5,e2,λσ3 _ R3=>?_⟩;have kk:=k.back (s1.trans (si.trans t1));cases e3:b ρ2 with
    |none=>simp only[e3]at ei;cases ei
    |some q=>
     refine⟨F,ρ2,H2,q,R3,e3,?_,λ_=>rfl⟩;cases q with
     |nx ρ3=>simp only[e3]at ei;exact λσ' H0' H' s' R'=>⟨ρ3,H0',si.trans (t1.trans s'),R',ei⟩
     |ct ρ3=>simp only[e3]at ei;exact λσ' H0' H' s' R'=>⟨ρ3,H0',si.trans (t1.trans s'),R',ei⟩
     |bk ρ3=>simp only[e3]at ei;cases ei;exact kk
     |rt d ρ3=>simp only[e3]at ei;cases ei;exact kk
     |rn d ρ3=>simp only[e3]at ei;cases ei;exact kk
  ·have ez:ds.drop i=[]:=jq (by omega);rw[ez]at ei;unfold forL at ei;cases ei;exact .inl ⟨(wk i Hi Hi' si Ri.sub).2 (by omega),k _ _ _ (s1.trans si) Ri⟩
end
def Sl.cap:Sl->Sl
 |.im d=>.im d
 |.ls ds=>.pm ds
 |.pm ds=>.pm ds
 |_=>.un
def xj(k:Nat)(cap:List Nat)(ρ:List Sl):List Sl:=gn k .un++cap.map λj=>((ρ[j]?).getD .un).cap
def qO:List Nat->List Sl->List Sl->Option (List Sl)
 |[],_,ρ=>some ρ
 |j::cap,t::ts,ρ=>match pd ρ j with
  |some _=>match t with
   |.pm ds=>qO cap ts (putAt ρ j ds)
   |_=>none
  |none=>qO cap ts ρ
 |_::_,[],_=>none
def ua(k:Nat)(cap:List Nat)(g:FG)(ft:FT)(fe:FE):List D->List Sl->Option (List D×List Sl)
 |[],ρ=>some ([],ρ)
 |d::r,ρ=>match g d (xj k cap ρ)with
  |none=>none
  |some ρ1=>match ft ρ1 with
   |some (true,ρ2)=>match fe ρ2 with
    |some (x,ρ3)=>match qO cap (ρ3.drop k) ρ with
     |some ρ'=>match ua k cap g ft fe r ρ' with
      |some (xs,ρ'')=>some (x::xs,ρ'')
      |none=>none
     |none=>none
    |none=>none
   |some (false,ρ2)=>match qO cap (ρ2.drop k) ρ with
    |some ρ'=>ua k cap g ft fe r ρ'
    |none=>none
   |none=>none
def nZ(k:Nat)(cap:List Nat)(s:FA)(g:FG)(ft:FT)(fe:FE):FA:=λρ=>match s ρ with
 |some (ds,ρ')=>if ds.length<=1000 then ua k cap g ft fe ds ρ' else none
 |none=>none
def oQ:FT:=λρ=>some (true,ρ)
theorem sY:∀{cap:List Nat} {ts ρ ρ':List Sl},qO cap ts ρ=some ρ'->ρ'.length=ρ.length/\
  (∀(j:Nat) (s':Sl),ρ'[j]?=some s'->∃s,ρ[j]?=some s/\((s'=s/\(s.L≠none->j∉cap))\/∃(m:Nat) (ds ds0:List D),cap[m]?=some j/\ts[m]?=some (Sl.pm ds)/\s.L=some ds0/\s'=s.putL ds))
 |[],ts,ρ,ρ',h=>by cases h;exact⟨rfl,λj s' e=>⟨s',e,.inl ⟨rfl,λ_ z=>by cases z⟩⟩⟩
 |j0::cap,[],ρ,ρ',h=>by cases h
 |j0::cap,t::ts,ρ,ρ',h=>by
  unfold qO at h;cases e0:pd ρ j0 with
  |none=>
   simp only[e0]at h;obtain⟨h1,h2⟩:=sY h;refine⟨h1,λj s' e=>?_⟩;obtain⟨s,e1,q⟩:=h2 j s' e;refine⟨s,e1,?_⟩;rcases q with ⟨rfl,q⟩|⟨m,ds,ds0,q1,q2,q3,q4⟩
   ·refine .inl ⟨rfl,λz y=>?_⟩;rcases aW.mp y with y|y
    ·subst y;unfold pd at e0;rw[e1]at e0;exact z e0
    ·exact q z y
   ·exact .inr ⟨m+1,ds,ds0,q1,q2,q3,q4⟩
  |some ds1=>
   simp only[e0]at h;cases t with
   |pm ds=>
    simp only at h;obtain⟨s0,e1,e2⟩:=qS e0;unfold putAt at h;rw[e1]at h;simp only at h;obtain⟨h1,h2⟩:=sY h;refine⟨by rw[h1,dc],λj s' e=>?_⟩;obtain⟨s,e3,q⟩:=h2 j s' e;by_cases hj:j0=j
    ·subst hj;rw[bE,ag rfl]at e3;split at e3
     ·cases e3;refine⟨s0,e1,.inr ?_⟩;rcases q with ⟨rfl,q⟩|⟨m,ds',ds0,q1,q2,q3,q4⟩
      ·exact⟨0,ds,ds1,rfl,rfl,e2,rfl⟩
      ·refine⟨m+1,ds',ds1,q1,q2,e2,?_⟩;rw[q4];cases s0<;>rfl
     ·cases e3
    ·rw[bE,ah hj]at e3;refine⟨s,e3,?_⟩;rcases q with ⟨rfl,q⟩|⟨m,ds',ds0,q1,q2,q3,q4⟩
     ·refine .inl ⟨rfl,λz y=>?_⟩;rcases aW.mp y with y|y
      ·exact hj y.symm
      ·exact q z y
     ·exact .inr ⟨m+1,ds',ds0,q1,q2,q3,q4⟩
   |_=>cases h
def yO(cap:List Nat)(σ:St)(ρ:List Sl):List Addr:=cap.filterMap λj=>match pd ρ j,(σ[j]?).join with
 |some _,some (.ref a)=>some a
 |_,_=>none
theorem ub{cap:List Nat}:a∈yO cap σ ρ ↔ ∃j∈cap,(∃ds,pd ρ j=some ds)/\(σ[j]?).join=some (.ref a):=by
 unfold yO;rw[cN];constructor
 ·rintro⟨j,hj,e⟩;refine⟨j,hj,?_⟩;split at e
  ·rename_i ds a' e1 e2;cases e;exact⟨⟨ds,e1⟩,e2⟩
  ·cases e
 ·rintro⟨j,hj,⟨ds,e1⟩,e2⟩;refine⟨j,hj,?_⟩;rw[e1,e2]
variable{H1':Hp}{ft:FT}{fe:FE}
section
variable{X:Cx}{G:Bg}{F:Fr}{σ:St}{ρ:List Sl}{H0 H:Hp}
theorem xU{k:Nat}{cap:List Nat}{i:Nat}{s:Sl}(h:(xj k cap ρ)[i]?=some s):s=.un\/∃m j,i=k+m/\cap[m]?=some j/\s=((ρ[j]?).getD .un).cap:=by
 unfold xj at h;by_cases hi:i<k
 ·rw[cZ (by simpa using hi),fX,ag hi]at h;cases h;exact .inl rfl
 ·rw[dr (by simpa using j8 hi),bX,bb]at h;cases e:cap[i - k]? with
  |none=>rw[e]at h;cases h
  |some j=>rw[e]at h;cases h;exact .inr ⟨i - k,j,by omega,e,rfl⟩
theorem vv{k:Nat}{cap:List Nat}{m:Nat}(h:cap[m]?=some j):((qF k cap σ)[k+m]?).join=(σ[j]?).join:=by unfold qF;rw[dr (by simp),bX,show k+m - k=m by omega,bb,h];rfl
theorem nY.cap(R:nY G F σ ρ H0 H)(k:Nat)(cap:List Nat)(nd:cap.Nodup):nY G ⟨H0,H,yO cap σ ρ⟩ (qF k cap σ) (xj k cap ρ) H0 H where
 sub:=R.sub
 g0:=nR.refl _
 keep:=λb o e _=>e
 fr:=λb o e=>.inl e
 am:=λa ha=>by obtain⟨j,hj,⟨ds,e1⟩,e2⟩:=ub.mp ha;obtain⟨s,e3,e4⟩:=qS e1;obtain⟨a',xs,h1,h2,_⟩:=(R.sl j s e3).lst e4;rw[e2]at h1;cases h1;exact⟨_,h2⟩
 len:=by unfold qF xj;rw[aB,aB,bX,bX,ai,ai]
 sl:=λi s e=>by
  rcases xU e with rfl|⟨m,j,rfl,e1,rfl⟩
  ·trivial
  ·rw[vv e1];cases e2:ρ[j]? with
   |none=>trivial
   |some s=>
    have ok:=R.sl j s e2;have mem:∀{a:Addr} {ds:List D},s.L=some ds->(σ[j]?).join=some (.ref a)->a∈yO cap σ ρ:=λh1 h2=>ub.mpr ⟨j,bw e1,⟨_,by unfold pd;rw[e2];exact h1⟩,h2⟩;cases s with
    |un=>trivial
    |im d=>exact ok
    |ls ds=>obtain⟨a,xs,h1,h2,h3,h4,h5⟩:=ok;exact⟨a,xs,h1,h2,h3,mem rfl h1,h5⟩
    |pm ds=>obtain⟨a,xs,h1,h2,h3,h4,h5⟩:=ok;exact⟨a,xs,h1,h2,h3,mem rfl h1,h5⟩
    |dk ks ds=>trivial
    |ob c ns ds=>trivial
 ap:=λi i' s t a hii e e' so to v v'=>by
  rcases xU e with rfl|⟨m,j,rfl,e1,rfl⟩
  ·cases so
  rcases xU e' with rfl|⟨m',j',rfl,e1',rfl⟩
  ·cases to
  rw[vv e1]at v;rw[vv e1']at v';have own:∀{j:Nat},(((ρ[j]?).getD Sl.un).cap).own=true->∃s,ρ[j]?=some s/\s.own=true:=λ{j} h=>by
   cases z:ρ[j]? with
   |none=>rw[z]at h;cases h
   |some s=>rw[z]at h;refine⟨s,rfl,?_⟩;cases s<;>first|rfl|cases h
  obtain⟨s,z,zo⟩:=own so;obtain⟨s',z',zo'⟩:=own to;by_cases hj:j=j'
  ·subst hj;have:m=m':=(List.getElem?_inj (bo.mp e1).1 nd).mp (e1.trans e1'.symm);exact hii (by rw[this])
  ·exact R.ap j j' s s' a hj z z' zo zo' v v'
theorem nY.uncap(R:nY G F σ ρ H0 H){k:Nat}{cap:List Nat}{σ4:St}{ρ4:List Sl}(R4:nY G ⟨H0,H,yO cap σ ρ⟩ σ4 ρ4 H1 H1')(hd:σ4.drop k=(qF k cap σ).drop k)(hu:qO cap (ρ4.drop k) ρ=some ρ'):nY G F σ ρ' H1 H1':=by
 obtain⟨hl,hc⟩:=sY hu;have at4:∀{m j:Nat},cap[m]?=some j->(σ4[k+m]?).join=(σ[j]?).join:=λ{m j} e=>by
  have q:(σ4.drop k)[m]?=((qF k cap σ).drop k)[m]?:=by rw[hd]
  rw[c6,c6]at q;rw[q];exact vv e
 have nA:∀{j:Nat} {s:Sl} {a:Addr},ρ[j]?=some s->s.own=true->(σ[j]?).join=some (.ref a)->(s.L≠none->j∉cap)->a∉yO cap σ ρ:=λ{j s a} e so z hn ha=>by
  obtain⟨i,hi,⟨ds,e1⟩,e2⟩:=ub.mp ha;obtain⟨t,e3,e4⟩:=qS e1;by_cases hij:i=j
  ·subst hij;rw[e]at e3;cases e3;exact hn (by rw[e4];simp) hi
  ·exact R.ap i j t s a hij e3 e (Sl.L_own e4) so e2 z
 have hA:∀a∈yO cap σ ρ,F.B a=none\/a∈F.A:=λa ha=>by obtain⟨i,hi,⟨ds,e1⟩,e2⟩:=ub.mp ha;obtain⟨t,e3,e4⟩:=qS e1;obtain⟨a',u,h1,h2,h3,h4⟩:=(R.sl i t e3).at (Sl.L_own e4);rw[e2]at h1;cases h1;exact h4
 have own':∀{j:Nat} {s':Sl},ρ'[j]?=some s'->s'.own=true->∃s,ρ[j]?=some s/\s.own=true:=λ{j s'} e so=>by
  obtain⟨s,e1,q⟩:=hc j s' e;rcases q with ⟨rfl,q⟩|⟨m,ds,ds0,q1,q2,q3,q4⟩
  ·exact⟨s',e1,so⟩
  ·exact⟨s,e1,Sl.L_own q3⟩
 exact {
  sub:=R4.sub
  g0:=R.g0.trans R4.g0
  keep:=λb o e n=>by
   refine R4.keep b o (R.keep b o e n) λha=>?_;rcases hA b ha with q|q
   ·rw[q]at e;cases e
   ·exact n q
  fr:=λb o e=>by
   rcases R4.fr b o e with q|q
   ·exact R.fr b o q
   ·exact .inr (R.bNone q)
  am:=λa ha=>by
   obtain⟨o,q⟩:=R.am a ha;by_cases z:a∈yO cap σ ρ
   ·exact R4.am a z
   ·exact⟨o,R4.keep a o q z⟩
  len:=by rw[hl];exact R.len
  sl:=λj s' e=>by
   obtain⟨s,e1,q⟩:=hc j s' e;rcases q with ⟨rfl,q⟩|⟨m,ds,ds0,q1,q2,q3,q4⟩
   ·refine(R.sl j s' e1).grow R4.g0 (λa u z so y=>R4.keep a u y (nA e1 so z q)) λa u z so y y0=>?_;cases w:H1 a with
    |none=>rfl
    |some o=>
     rcases R4.fr a o w with x|x
     ·have x':H0 a=some o:=x;rw[x']at y0;cases y0
     ·have x':H a=none:=x;rw[x']at y;cases y
   ·rw[c6]at q2;obtain⟨a,xs,h1,h2,h3,h4,h5⟩:=R4.sl _ _ q2;rw[at4 q1]at h1;have ok:=R.sl j s e1;subst q4;cases s with
    |ls ds1=>obtain⟨a',xs',g1,g2,g3,g4,g5⟩:=ok;rw[h1]at g1;cases g1;exact⟨a,xs,h1,h2,h3,g4,h5⟩
    |pm ds1=>obtain⟨a',xs',g1,g2,g3,g4,g5⟩:=ok;rw[h1]at g1;cases g1;exact⟨a,xs,h1,h2,h3,g4,h5⟩
    |_=>cases q3
  ap:=λi j s t a hij ei ej so to v v'=>by
   obtain⟨s0,z,zo⟩:=own' ei so;obtain⟨t0,y,yo⟩:=own' ej to;exact R.ap i j s0 t0 a hij z y zo yo v v' }
theorem uc{k:Nat}{cap:List Nat}{ts:List Sl}(h:Apart σ ρ p)(hu:qO cap ts ρ=some ρ'):Apart σ ρ' p:=λi s' e so=>by
 obtain⟨s,e1,q⟩:=(sY hu).2 i s' e;rcases q with ⟨rfl,q⟩|⟨m,ds,ds0,q1,q2,q3,q4⟩
 ·exact h i s' e1 so
 ·exact h i s e1 (Sl.L_own q3)
inductive CI(G:Bg) (F:Fr) (σ:St) (H1:Hp) (p:Addr) (k:Nat) (cap:List Nat) (g:FG) (ft:FT) (fe:FE) (ds es:List D) (ρ':List Sl) (i m:Nat) (acc:List V) (H2:Hp):Prop
 |mk (ρi:List Sl) (Hi:Hp) (dn rest:List D):m=ds.length - i->i<=ds.length->nR H1 Hi->nY G F σ ρi Hi H2->H2 p=some (.lst acc)->Hi p=none->Apart σ ρi p->nM G Hi dn acc->dn.length<=i->ua k cap g ft fe (ds.drop i) ρi=some (rest,ρ')->es=dn++rest->CI G F σ H1 p k cap g ft fe ds es ρ' i m acc H2
theorem zX{k:Nat}{cap:List Nat}{s:FA}{g:FG}(nd:cap.Nodup):∀σ H Q,tFN G (nZ k cap s g ft fe) σ H Q->wD (tFI G s) (tFG G k g) (tFT G ft) (tF G fe) k cap σ H Q:=λσ H Q hh=>by
 obtain⟨F,ρ,H0,es,ρ',R,e,kk⟩:=hh;unfold nZ at e;rcases n4 (f:=s) (ρ:=ρ)with e1|⟨ds,ρ1,e1⟩<;>simp only[e1]at e
 ·cases e
 ·split at e
  ·rename_i hlen;refine⟨F,ρ,H0,ds,ρ1,R,e1,λJ H1 H1' s1 R1 wk p hp=>?_⟩;refine⟨CI G F σ H1 p k cap g ft fe ds es ρ',
    ⟨_,ρ1,H1,[],es,rfl,b8 _,nR.refl _,R1.newOwn hp _,nW,R1.h0none hp,R1.apart hp,ot,aC _,e,rfl⟩,?_⟩
   rintro i m acc H2 ⟨ρi,Hi,dn,rest,rfl,hi,si,Ri,hp2,hp0,apt,rs,hdn,ei,rfl⟩;by_cases hlt:i<ds.length
   ·have ed:ds.drop i=ds[i]::ds.drop (i+1):=gU hlt;rw[ed]at ei;unfold ua at ei;obtain⟨go,yl⟩:=(wk i Hi H2 si Ri.sub).1 ds[i] (aS hlt);refine .inr ⟨go,λx H3 y=>?_⟩;obtain⟨Hj,t1,t2,t3,t4,t5⟩:=yl x H3 y;have R2:=Ri.grow t3 t1 t2 t4;have hp3:H3 p=some (.lst acc):=t3 _ _ hp2;have hpj:Hj p=none:=by
     cases w:Hj p with
     |none=>rfl
     |some o=>
      rcases t4 p o w with z|z
      ·rw[hp0]at z;cases z
      ·rw[hp2]at z;cases z
    have RC:=R2.cap k cap nd;have npA:p∉yO cap σ ρi:=λz=>by obtain⟨j,_,⟨ds',q1⟩,q2⟩:=ub.mp z;obtain⟨t,q3,q4⟩:=qS q1;exact apt j t q3 (Sl.L_own q4) q2
    cases e2:g ds[i] (xj k cap ρi)with
    |none=>simp only[e2]at ei;cases ei
    |some ρ2=>
     simp only[e2]at ei;refine⟨_,_,Hj,ds[i],ρ2,RC,t5,e2,λσ4 hd4 R4=>⟨hd4,?_⟩⟩;rcases n4 (f:=ft) (ρ:=ρ2)with e3|⟨b,ρ3,e3⟩
     ·simp only[e3]at ei;cases ei
     ·refine⟨_,ρ2,Hj,b,ρ3,R4,e3,λH5 H5' s5 R5=>?_⟩;have keepP:∀{σ':St} {ρ'':List Sl} {Ha Ha':Hp},nY G ⟨Hj,H3,yO cap σ ρi⟩ σ' ρ'' Ha Ha'->Ha' p=some (.lst acc)/\Ha p=none:=λRz=>by
       refine⟨Rz.keep p _ hp3 npA,?_⟩;refine Option.eq_none_iff_forall_ne_some.mpr λo w2=>?_;rcases Rz.fr p o w2 with z|z
       ·have z':Hj p=some o:=z;rw[hpj]at z';cases z'
       ·have z':H3 p=none:=z;rw[hp3]at z';cases z'
      cases b with
      |false=>
       simp only[e3]at ei;refine AC ?_;cases e4:qO cap (ρ3.drop k) ρi with
       |none=>simp only[e4]at ei;cases ei
       |some ρn=>simp only[e4]at ei;obtain⟨w1,w2⟩:=keepP R5;exact⟨ds.length - (i+1),by omega,ρn,H5,dn,rest,rfl,hlt,si.trans (t1.trans s5),R2.uncap R5 hd4 e4,w1,w2,uc (k:=k) apt e4,nM.mono (t1.trans s5) _ _ rs,by omega,ei,rfl⟩
      |true=>
       simp only[e3]at ei;refine AD ?_;rcases n4 (f:=fe) (ρ:=ρ3)with e5|⟨x5,ρ5,e5⟩
       ·simp only[e5]at ei;cases ei
       ·simp only[e5]at ei;refine⟨_,ρ3,H5,x5,ρ5,R5,e5,λv H6 H6' s6 R6 rv=>?_⟩;obtain⟨w1,w2⟩:=keepP R6;cases e4:qO cap (ρ5.drop k) ρi with
        |none=>simp only[e4]at ei;cases ei
        |some ρn=>
         simp only[e4]at ei;cases e6:ua k cap g ft fe (ds.drop (i+1)) ρn with
         |none=>simp only[e6]at ei;cases ei
         |some q=>
          obtain⟨rest',ρz⟩:=q;simp only[e6]at ei;cases ei;have Rn:=R2.uncap R6 hd4 e4;have lacc:acc.length=dn.length:=(nL rs).symm;refine⟨acc,w1,uy (by omega),ds.length - (i+1),by omega,ρn,H6,dn++[x5],rest',rfl,hlt,si.trans (t1.trans (s5.trans s6)),?_,nW,w2,uc (k:=k) apt e4,pH (nM.mono (t1.trans (s5.trans s6)) _ _ rs) (oB rv ot),by rw[aB,bY];omega,e6,by rw[bJ];rfl⟩;exact {
           sub:=λb o e=>by rw[nT (λz=>by rw[z,w2]at e;cases e)];exact Rn.sub b o e
           g0:=Rn.g0
           keep:=λb o e n=>by rw[nT (λz=>by subst z;rw[R1.bNone hp]at e;cases e)];exact Rn.keep b o e n
           fr:=Rn.fr
           am:=λb hb=>by
            by_cases z:b=p
            ·subst z;exact⟨_,nW⟩
            ·rw[nT z];exact Rn.am b hb
           len:=Rn.len
           sl:=λj t ej=>(Rn.sl j t ej).grow (nR.refl _) (λb u z to q=>by rw[nT (λy=>uc (k:=k) apt e4 j t ej to (by rw[z,y]))];exact q) λb u _ _ _ q=>q
           ap:=Rn.ap }
   ·have ez:ds.drop i=[]:=jq (by omega);rw[ez]at ei;unfold ua at ei;cases ei;rw[bK]at kk;exact .inl ⟨(wk i Hi H2 si Ri.sub).2 (by omega),kk p acc Hi H2 (s1.trans si) Ri hp2 hp0 (R1.bNone hp) apt rs⟩
  ·cases e
theorem Fg{k:Nat}{cap:List Nat}{s:FA}{g:FG}(nd:cap.Nodup)(h:PE X e (wD (tFI G s) (tFG G k g) (tFT G ft) (tF G fe) k cap)):PE X e (tFN G (nZ k cap s g ft fe)):=PE.weak h (zX nd)
theorem Fh:PIf X [] (tFT G oQ):=λpins s σ H Q I h=>by obtain⟨F,ρ,H0,b,ρ',R,e,k⟩:=h;cases e;exact Hn pins s σ H Q I (k _ _ (nR.refl _) R)
end
def pZ:D->Bool
 |.non=>true|.bl _=>true|.int _=>true|.str _=>true|_=>false
def vD:D->V
 |.non=>.non|.bl b=>.bl b|.int i=>.int i|.str x=>.str x|_=>.non
variable{r':R2}{g':D->D->Option D}{neg:Bool}
section
variable{X:Cx}{G:Bg}{H:Hp}
theorem rb{v:V}(h:Rep G H d v)(f:pZ d=true):v=vD d:=by cases d<;>first|(unfold Rep at h;exact h)|cases f
theorem vw(f:pZ d=true):∀H,Rep G H d (vD d):=λH=>by cases d<;>first|(unfold Rep;rfl)|cases f
theorem wa:∀{ds:List D} {xs:List V},nM G H ds xs->ds.all pZ=true->xs=ds.map vD
 |[],xs,h,f=>by unfold nM at h;exact h
 |d::ds,xs,h,f=>by unfold nM at h;obtain⟨v,r,rfl,h1,h2⟩:=h;rw[cy,aA]at f;rw[aN,rb h1 f.1,wa h2 f.2]
theorem AS(f:pZ d=true):uG (vD d)=true:=by cases d<;>first|rfl|cases f
theorem zb:∀{ds:List D},ds.all pZ=true->(ds.map vD).all uG=true
 |[],_=>rfl
 |d::ds,f=>by rw[cy,aA]at f;rw[aN,cy,AS f.1,zb f.2];rfl
theorem OpR.or{f:aa->aa->Sem aa}{r:R2}(h:OpR X f r)(h':OpR X f r'):OpR X f (λx y H Q=>r x y H Q\/r' x y H Q):=λpins s σ H x y v u Q I rx ry q=>q.elim (h pins s σ H x y v u Q I rx ry) (h' pins s σ H x y v u Q I rx ry)
theorem OpD.or{r:R2}{g:D->D->Option D}(h:OpD G r g)(h':OpD G r' g'):OpD G (λx y H Q=>r x y H Q\/r' x y H Q) (λx y=>match g x y with|some z=>some z|none=>g' x y):=λx y z H0 H v u Q e s rx ry k=>by
 cases e1:g x y with
 |some w=>simp only[e1]at e;cases e;exact .inl (h x y _ H0 H v u Q e1 s rx ry k)
 |none=>simp only[e1]at e;exact .inr (h' x y z H0 H v u Q e s rx ry k)
def dI(C:Int->Int->Bool)(g:Int->Int->D):D->D->Option D
 |.int a,.int b=>if C a b=true then some (g a b)else none
 |_,_=>none
theorem Cu{C:Int->Int->Bool}{C':Int->Int->Prop}{g:Int->Int->D}{g':Int->Int->V}(hC:∀a b,C a b=true->C' a b)(hf:∀a b,pZ (g a b)=true/\vD (g a b)=g' a b):OpD G (rI C' g') (dI C g):=λx y z H0 H v u Q e s rx ry k=>by
 unfold dI at e;split at e
 ·rename_i a b;split at e
  ·rename_i hc;cases e;unfold Rep at rx ry;exact⟨a,b,rx,ry,hC _ _ hc,by rw[<-(hf a b).2];exact k _ λH0' _=>vw (hf a b).1 H0'⟩
  ·cases e
 ·cases e
theorem xV{g:Int->Int->D}{g':Int->Int->V}(hf:∀a b,pZ (g a b)=true/\vD (g a b)=g' a b):OpD G (rI0 g') (dI (λ_ _=>true) g):=λx y z H0 H v u Q e s rx ry k=>by
 unfold dI at e;split at e
 ·rename_i a b;split at e
  ·cases e;unfold Rep at rx ry;exact⟨a,b,rx,ry,by rw[<-(hf a b).2];exact k _ λH0' _=>vw (hf a b).1 H0'⟩
  ·cases e
 ·cases e
def qA:=dI (λ_ _=>true) λa b=>.int (a+b)
def sk(a:Int):Bool:=decide (-(2 ^ 64)<a)&&decide (a<2 ^ 64)
def rQ:=dI (λa b=>sk a||sk b) λa b=>.int (a * b)
def qk:=dI (λ_ b=>decide (0<b)) λa b=>.int (a % b)
def tK:=dI (λ_ b=>decide (0<b)&&decide (b<1073741824)) λa b=>.int (a / b)
def Fi:=dI (λa b=>decide (0<=b)&&decide (b<=1000000)&&decide (a.natAbs<2 ^ 64)) λa b=>.int (a ^ b.toNat)
def Ig:=dI (λ_ _=>true) λa b=>.bl (decide (a<b))
def r6:=dI (λ_ _=>true) λa b=>.bl (decide (a<=b))
def Fj:=dI (λ_ _=>true) λa b=>.bl (decide (b<a))
def K3:=dI (λ_ _=>true) λa b=>.bl (decide (b<=a))
theorem K4:OpD G (rI0 λi j=>.int (i+j)) qA:=xV λ_ _=>⟨rfl,rfl⟩
theorem K5:OpD G (rI GW λi j=>.int (i * j)) rQ:=Cu (λa b h=>by
 unfold sk at h;simp only[dZ,aA,bF]at h;exact h) λ_ _=>⟨rfl,rfl⟩
theorem K6:OpD G (rI (λ_ j=>0<j) λi j=>.int (i % j)) qk:=Cu (λa b h=>by simpa using h) λ_ _=>⟨rfl,rfl⟩
theorem K7:OpD G (rI Kp λi j=>.int (i / j)) tK:=Cu (λa b h=>by unfold Kp;simpa using h) λ_ _=>⟨rfl,rfl⟩
theorem K8:OpD G (rI NC λi j=>.int (i ^ j.toNat)) Fi:=Cu (λa b h=>by
 simp only[aA,bF]at h;exact⟨h.1.1,h.1.2,h.2⟩) λ_ _=>⟨rfl,rfl⟩
theorem N6:OpD G (rI0 λi j=>.bl (decide (i<j))) Ig:=xV λ_ _=>⟨rfl,rfl⟩
theorem N7:OpD G (rI0 λi j=>.bl (decide (i<=j))) r6:=xV λ_ _=>⟨rfl,rfl⟩
theorem N8:OpD G (rI0 λi j=>.bl (decide (j<i))) Fj:=xV λ_ _=>⟨rfl,rfl⟩
theorem N9:OpD G (rI0 λi j=>.bl (decide (j<=i))) K3:=xV λ_ _=>⟨rfl,rfl⟩
def Pm:D->D->Option D
 |.str a,.str b=>if a.length+b.length<=100000 then some (.str (a++b))else none
 |_,_=>none
theorem AU{n:Nat}(h:n<=100000):n<=az:=bH h (by rw[cz];decide)
def Fk:D->D->Option D
 |.str a,.str b=>some (.bl (!decide (b.cps.toList<a.cps.toList)))
 |_,_=>none
theorem K9:OpD G (λx y H Q=>∃i j,x=.str i/\y=.str j/\Q (.bl (!decide (j.cps.toList<i.cps.toList))) H) Fk:=λx y z H0 H v u Q e s rx ry k=>by
 unfold Fk at e;split at e
 ·rename_i a b;cases e;unfold Rep at rx ry;exact⟨a,b,rx,ry,k _ λ_ _=>qr _⟩
 ·cases e
def xk:D->D->Option D
 |.non,.non=>some (.bl true)
 |_,.non=>some (.bl false)
 |_,_=>none
def zc:D->D->Option D
 |.non,.non=>some (.bl false)
 |_,.non=>some (.bl true)
 |_,_=>none
theorem Cv{v:V}(h:Rep G H d v):decide (v=.non)=(match d with|.non=>true|_=>false):=by
 cases d<;>unfold Rep at h
 ·subst h;rfl
 ·subst h;rfl
 ·subst h;rfl
 ·subst h;rfl
 ·obtain⟨a,xs,rfl,_⟩:=h;rfl
 ·obtain⟨a,xs,rfl,_⟩:=h;rfl
 ·obtain⟨a,xs,rfl,_⟩:=h;rfl
 ·obtain⟨a,dx,xs,rfl,_⟩:=h;rfl
 ·obtain⟨a,ob,xs,rfl,_⟩:=h;rfl
theorem La:OpD G (λx y H Q=>y=.non/\Q (.bl (decide (x=.non))) H) xk:=λx y z H0 H v u Q e s rx ry k=>by
 have e0:=Cv rx;cases y<;>first|(cases x<;>cases e)|skip
 all_goals (unfold Rep at ry;refine⟨ry,?_⟩;rw[e0];exact k _ λ_ _=>qr _)
theorem Ih:OpD G (λx y H Q=>y=.non/\Q (.bl (!decide (x=.non))) H) zc:=λx y z H0 H v u Q e s rx ry k=>by
 have e0:=Cv rx;cases y<;>first|(cases x<;>cases e)|skip
 all_goals (unfold Rep at ry;refine⟨ry,?_⟩;rw[e0];exact k _ λ_ _=>qr _)
def OX:D->D->Option D
 |.bl a,.bl b=>some (.bl (a != b))
 |_,_=>none
mutual
def toD:D->Option L3.Dq
 |.non=>some .non
 |.bl b=>some (.bl b)
 |.int i=>some (.int i)
 |.str x=>some (.str x)
 |.tup ds=>match zY ds with
  |some l=>some (.tup l)
  |none=>none
 |.lst ds=>match zY ds with
  |some l=>some (.lst l)
  |none=>none
 |.fzl _=>none
 |.obj _ _ _=>none
 |.dic _ _=>none
def zY:List D->Option (List L3.Dq)
 |[]=>some []
 |d::ds=>match toD d with
  |some x=>match zY ds with
   |some l=>some (x::l)
   |none=>none
  |none=>none
end
mutual
theorem zZ:∀(d:D) (v:V) (x:L3.Dq),Rep G H d v->toD d=some x->L3.Rep G.K H x v
 |.non,v,x,h,e=>by unfold toD at e;cases e;unfold Rep at h;unfold L3.Rep;exact h
 |.bl b,v,x,h,e=>by unfold toD at e;cases e;unfold Rep at h;unfold L3.Rep;exact h
 |.int b,v,x,h,e=>by unfold toD at e;cases e;unfold Rep at h;unfold L3.Rep;exact h
 |.str b,v,x,h,e=>by unfold toD at e;cases e;unfold Rep at h;unfold L3.Rep;exact h
 |.tup ds,v,x,h,e=>by
  unfold toD at e;cases e1:zY ds with
  |none=>simp only[e1]at e;cases e
  |some l=>simp only[e1]at e;cases e;unfold Rep at h;obtain⟨a,xs,rfl,h1,h2⟩:=h;unfold L3.Rep;exact⟨a,xs,rfl,h1,xW ds xs l h2 e1⟩
 |.lst ds,v,x,h,e=>by
  unfold toD at e;cases e1:zY ds with
  |none=>simp only[e1]at e;cases e
  |some l=>simp only[e1]at e;cases e;unfold Rep at h;obtain⟨a,xs,rfl,h1,h2⟩:=h;unfold L3.Rep;exact⟨a,xs,rfl,SqL.of h1,xW ds xs l h2 e1⟩
 |.fzl _,v,x,h,e=>by unfold toD at e;cases e
 |.obj _ _ _,v,x,h,e=>by unfold toD at e;cases e
 |.dic _ _,v,x,h,e=>by unfold toD at e;cases e
theorem xW:∀(ds:List D) (xs:List V) (l:List L3.Dq),nM G H ds xs->zY ds=some l->L3.nM G.K H l xs
 |[],xs,l,h,e=>by unfold zY at e;cases e;unfold nM at h;unfold L3.nM;exact h
 |d::ds,xs,l,h,e=>by
  unfold zY at e;cases e1:toD d with
  |none=>simp only[e1]at e;cases e
  |some x=>
   simp only[e1]at e;cases e2:zY ds with
   |none=>simp only[e2]at e;cases e
   |some l'=>simp only[e2]at e;cases e;unfold nM at h;obtain⟨v,r,rfl,h1,h2⟩:=h;unfold L3.nM;exact⟨v,r,rfl,zZ d v x h1 e1,xW ds r l' h2 e2⟩
end
def BG(neg:Bool):D->D->Option D:=λx y=>match pZ x&&pZ y&&EA (vD x) (vD y)with
 |true=>some (.bl (if neg then !decide (vD x=vD y)else decide (vD x=vD y)))
 |false=>none
def Lb(neg:Bool):D->D->Option D:=λx y=>match toD x,toD y with
 |some a,some b=>if Jz a b&&decide (dpt a<=20)&&decide (dpt b<=20)then some (.bl (if neg then !eqD a b else eqD a b))else none
 |_,_=>none
def dEq(neg:Bool):D->D->Option D:=λx y=>match BG neg x y with
 |some z=>some z
 |none=>Lb neg x y
theorem Lc:OpD G rEq (BG false):=λx y z H0 H v u Q e s rx ry k=>by
 unfold BG at e;cases e1:pZ x&&pZ y&&EA (vD x) (vD y)with
 |false=>simp only[e1]at e;cases e
 |true=>simp only[e1]at e;cases e;simp only[aA]at e1;rw[rb rx e1.1.1,rb ry e1.1.2];exact⟨e1.2,k _ λ_ _=>qr _⟩
theorem Ld:OpD G rNe (BG true):=λx y z H0 H v u Q e s rx ry k=>by
 unfold BG at e;cases e1:pZ x&&pZ y&&EA (vD x) (vD y)with
 |false=>simp only[e1]at e;cases e
 |true=>simp only[e1]at e;cases e;simp only[aA]at e1;rw[rb rx e1.1.1,rb ry e1.1.2];exact⟨e1.2,k _ λ_ _=>qr _⟩
theorem Fl:OpD G (BC G.K neg) (Lb neg):=λx y z H0 H v u Q e s rx ry k=>by
 unfold Lb at e;cases e1:toD x with
 |none=>simp only[e1]at e;cases e
 |some a=>
  cases e2:toD y with
  |none=>simp only[e1,e2]at e;cases e
  |some b=>
   simp only[e1,e2]at e;split at e
   ·rename_i hc;cases e;simp only[aA,bF]at hc;exact⟨a,b,zZ x v a (Rep.mono s _ _ rx) e1,zZ y u b (Rep.mono s _ _ ry) e2,hc.1.1,hc.1.2,hc.2,k _ λ_ _=>qr _⟩
   ·cases e
theorem Le(hu:X.A.units+64<cLine)(hK:X.K=G.K:=by rfl):OpR X (aU .Eq) (λx y H Q=>rEq x y H Q\/BC G.K false x y H Q):=by rw[<-hK];exact OpR.or ND (KL hu)
theorem Lf(hu:X.A.units+64<cLine)(hK:X.K=G.K:=by rfl):OpR X (aU .NotEq) (λx y H Q=>rNe x y H Q\/BC G.K true x y H Q):=by rw[<-hK];exact OpR.or NF (KM hu)
theorem Oa:OpD G (λx y H Q=>rEq x y H Q\/BC G.K false x y H Q) (dEq false):=OpD.or Lc Fl
theorem Ob:OpD G (λx y H Q=>rNe x y H Q\/BC G.K true x y H Q) (dEq true):=OpD.or Ld Fl
def Fm:D->Option (List D)
 |.tup ds=>some ds
 |.lst ds=>some ds
 |.fzl ds=>some ds
 |_=>none
theorem Cy{v:V}(h:Rep G H d v)(e:Fm d=some ds):∃p xs,v=.ref p/\(SqL G.K H p xs\/SqT G.K H p xs)/\nM G H ds xs:=by
 cases d with
 |tup l=>cases e;unfold Rep at h;obtain⟨a,xs,rfl,h1,h2⟩:=h;exact⟨a,xs,rfl,.inr h1,h2⟩
 |lst l=>cases e;unfold Rep at h;obtain⟨a,xs,rfl,h1,h2⟩:=h;exact⟨a,xs,rfl,.inl (SqL.of h1),h2⟩
 |fzl l=>cases e;unfold Rep at h;obtain⟨a,xs,rfl,h1,h2⟩:=h;exact⟨a,xs,rfl,.inl h1,h2⟩
 |_=>cases e
def dIn(neg:Bool):D->D->Option D:=λx y=>match Fm y with
 |some ds=>if pZ x&&ds.all pZ then some (.bl (if neg then !inV (vD x) (ds.map vD)else inV (vD x) (ds.map vD)))else none
 |none=>none
theorem CA{K:aj}{H:Hp}(s:nR H H')(h:SqL K H p xs\/SqT K H p xs):SqL K H' p xs\/SqT K H' p xs:=h.imp s.seq (SqT.mono s)
theorem JA:OpD G (rIn G.K neg) (dIn neg):=λx y z H0 H v u Q e s rx ry k=>by
 unfold dIn at e;cases e1:Fm y with
 |none=>simp only[e1]at e;cases e
 |some ds=>
  simp only[e1]at e;split at e
  ·rename_i hc;cases e;simp only[aA]at hc;obtain⟨p,xs,rfl,h1,h2⟩:=Cy ry e1;refine⟨p,xs,rfl,CA s h1,?_,?_,?_⟩
   ·rw[rb rx hc.1];exact AS hc.1
   ·rw[wa h2 hc.2];exact zb hc.2
   ·rw[rb rx hc.1,wa h2 hc.2];exact k _ λ_ _=>qr _
  ·cases e
theorem Lg(hK:X.K=G.K:=by rfl):OpR X (aU .In) (rIn G.K false):=by rw[<-hK];exact DM
theorem D2(hK:X.K=G.K:=by rfl):OpR X (aU .NotIn) (rIn G.K true):=by rw[<-hK];exact zN
def dIx:D->D->Option D
 |.tup ds,.int i=>atI ds i
 |.lst ds,.int i=>atI ds i
 |.fzl ds,.int i=>atI ds i
 |.str x,.int i=>if x.length<=100000 then (atI x.cps.toList i).map λc=>.str ⟨#[c]⟩else none
 |_,_=>none
theorem Od:OpD G (rIx G.K) dIx:=λx y z H0 H v u Q e s rx ry k=>by
 cases y with
 |int i=>
  unfold Rep at ry;subst ry;cases x with
  |tup ds=>unfold Rep at rx;obtain⟨a,xs,rfl,h1,h2⟩:=rx;obtain⟨w,w1,w2⟩:=vq h2 (show atI ds i=some z from e);exact .inr (.inl ⟨a,xs,i,w,rfl,rfl,SqT.mono s h1,w1,k _ λH0' s'=>Rep.mono s' _ _ w2⟩)
  |lst ds=>unfold Rep at rx;obtain⟨a,xs,rfl,h1,h2⟩:=rx;obtain⟨w,w1,w2⟩:=vq h2 (show atI ds i=some z from e);exact .inl ⟨a,xs,i,w,rfl,rfl,s.seq (SqL.of h1),w1,k _ λH0' s'=>Rep.mono s' _ _ w2⟩
  |fzl ds=>unfold Rep at rx;obtain⟨a,xs,rfl,h1,h2⟩:=rx;obtain⟨w,w1,w2⟩:=vq h2 (show atI ds i=some z from e);exact .inl ⟨a,xs,i,w,rfl,rfl,s.seq h1,w1,k _ λH0' s'=>Rep.mono s' _ _ w2⟩
  |str t=>
   unfold Rep at rx;subst rx;unfold dIx at e;simp only at e;split at e
   ·rename_i hl;cases e1:atI t.cps.toList i with
    |none=>rw[e1]at e;cases e
    |some c=>rw[e1]at e;cases e;exact .inr (.inr ⟨t,i,c,rfl,rfl,AU hl,e1,k _ λ_ _=>vn _⟩)
   ·cases e
  |_=>cases e
 |_=>cases x<;>cases e
theorem Pb(hK:X.K=G.K:=by rfl):IxR X (rIx G.K):=by rw[<-hK];exact KB
def zd(G:Bg)(r:List V->Hp->VK->Prop)(g:D->Option D):Prop:=∀x z H0 H v (Q:VK),g x=some z->nR H0 H->Rep G H0 x v->(∀w,(∀H0',nR H0 H0'->Rep G H0' z w)->Q w H)->r [v] H Q
theorem JB{r:List V->Hp->VK->Prop}{g:D->Option D}(hr:zd G r g)(h:PE X e (tCB r (tFA G (aCons f ox)))):PE X e (tF G (c1 g f)):=PE.weak h λσ H Q hh=>by obtain⟨F,ρ,H0,d,ρ',R,e,k⟩:=hh;obtain⟨x,e1,e2⟩:=xp e;refine⟨F,ρ,H0,[x],ρ',R,by unfold aCons;rw[e1];rfl,λys H1 H1' s R' rs=>?_⟩;unfold nM at rs;obtain⟨v,r0,rfl,rv,rn⟩:=rs;unfold nM at rn;subst rn;exact hr x d H1 H1' v Q e2 R'.sub rv λw hw=>k _ _ _ s R' (hw _ (nR.refl _))
theorem pR.or{f:aa}{r r':List V->Hp->VK->Prop}(h:pR X f r)(h':pR X f r'):pR X f (λx H Q=>r x H Q\/r' x H Q):=λpins s σ H xs us Q I rv q=>q.elim (h pins s σ H xs us Q I rv) (h' pins s σ H xs us Q I rv)
def p6:D->Option D
 |.tup ds=>some (.int ds.length)
 |.lst ds=>some (.int ds.length)
 |.fzl ds=>some (.int ds.length)
 |.str x=>if x.length<=100000 then some (.int x.length)else none
 |.dic ks ds=>some (.int ks.length)
 |_=>none
theorem D3:pR X (.builtin "len") (λxs H Q=>∃a kvs,xs=[V.ref a]/\Rd H a (.dK kvs)/\Q (.int kvs.length) H):=by intro pins s σ H xs us Q I r h;obtain⟨a,kvs,rfl,ha,q⟩:=h;obtain⟨u,rfl,ru⟩:=vals1 r;cases ru;exact NS I ha λt s' I'=>⟨.int kvs.length,H,I',⟨t,rfl⟩,q⟩
def JC(K:aj):List V->Hp->VK->Prop:=λxs H Q=>(∃p ys,xs=[.ref p]/\(SqL K H p ys\/SqT K H p ys)/\Q (.int ys.length) H)\/((∃z,xs=[.str z]/\z.length<=az/\Q (.int z.length) H)\/(∃a kvs,xs=[V.ref a]/\Rd H a (.dK kvs)/\Q (.int kvs.length) H))
theorem D4(hK:X.K=G.K:=by rfl):pR X (.builtin "len") (JC G.K):=by rw[<-hK];exact pR.or zO (pR.or zP D3)
theorem Lh:zd G (JC G.K) p6:=λx z H0 H v Q e s rx k=>by
 cases x with
 |tup ds=>cases e;unfold Rep at rx;obtain⟨a,xs,rfl,h1,h2⟩:=rx;refine .inl ⟨a,xs,rfl,.inr (SqT.mono s h1),?_⟩;rw[<-nL h2];exact k _ λ_ _=>pK _
 |lst ds=>cases e;unfold Rep at rx;obtain⟨a,xs,rfl,h1,h2⟩:=rx;refine .inl ⟨a,xs,rfl,.inl (s.seq (SqL.of h1)),?_⟩;rw[<-nL h2];exact k _ λ_ _=>pK _
 |fzl ds=>cases e;unfold Rep at rx;obtain⟨a,xs,rfl,h1,h2⟩:=rx;refine .inl ⟨a,xs,rfl,.inl (s.seq h1),?_⟩;rw[<-nL h2];exact k _ λ_ _=>pK _
 |str t=>
  unfold p6 at e;simp only at e;split at e
  ·rename_i hl;cases e;unfold Rep at rx;exact .inr (.inl ⟨t,by rw[rx],AU hl,k _ λ_ _=>pK _⟩)
  ·cases e
 |dic ks ds=>cases e;unfold Rep at rx;obtain⟨a,o,xs,rfl,h1,h2,h3⟩:=rx;refine .inr (.inr ⟨a,_,rfl,.inr ⟨o,s _ _ h1⟩,?_⟩);rw[fL,<- h2,fP];exact k _ λ_ _=>pK _
 |_=>cases e
def Li:D->Option D
 |.int i=>some (.int i)
 |.bl b=>some (.int (if b then 1 else 0))
 |_=>none
theorem Lj:zd G (λxs H Q=>(∃i,xs=[.int i]/\Q (.int i) H)\/∃k,xs=[.bl k]/\Q (.int (if k then 1 else 0)) H) Li:=λx z H0 H v Q e s rx k=>by
 cases x with
 |int i=>cases e;unfold Rep at rx;subst rx;exact .inl ⟨i,rfl,k _ λ_ _=>pK _⟩
 |bl b=>cases e;unfold Rep at rx;subst rx;exact .inr ⟨b,rfl,k _ λ_ _=>pK _⟩
 |_=>cases e
def yP:List D->Option (List Bool)
 |[]=>some []
 |.bl b::r=>(yP r).map (b::·)
 |_=>none
theorem xX:∀{ds:List D} {xs:List V} {bs:List Bool},nM G H ds xs->yP ds=some bs->xs=bs.map V.bl
 |[],xs,bs,h,e=>by cases e;unfold nM at h;exact h
 |.bl b::r,xs,bs,h,e=>by
  unfold nM at h;obtain⟨v,q,rfl,h1,h2⟩:=h;unfold yP at e;cases e1:yP r with
  |none=>rw[e1]at e;cases e
  |some l=>rw[e1]at e;cases e;unfold Rep at h1;subst h1;rw[xX h2 e1];rfl
 |.non::r,xs,bs,h,e=>by cases e
 |.int _::r,xs,bs,h,e=>by cases e
 |.str _::r,xs,bs,h,e=>by cases e
 |.tup _::r,xs,bs,h,e=>by cases e
 |.lst _::r,xs,bs,h,e=>by cases e
 |.fzl _::r,xs,bs,h,e=>by cases e
 |.obj _ _ _::r,xs,bs,h,e=>by cases e
 |.dic _ _::r,xs,bs,h,e=>by cases e
def ql:D->Option D
 |.lst ds=>(yP ds).map λbs=>.bl (bs.all id)
 |_=>none
theorem Ll:zd G (λxs H Q=>∃(p:Addr) (bs:List Bool),xs=[.ref p]/\SqL G.K H p (bs.map V.bl)/\Q (.bl (bs.all id)) H) ql:=λx z H0 H v Q e s rx k=>by
 cases x with
 |lst ds=>
  unfold ql at e;simp only at e;cases e1:yP ds with
  |none=>rw[e1]at e;cases e
  |some bs=>rw[e1]at e;cases e;unfold Rep at rx;obtain⟨a,xs,rfl,h1,h2⟩:=rx;rw[xX h2 e1]at h1;exact⟨a,bs,rfl,s.seq (SqL.of h1),k _ λ_ _=>qr _⟩
 |_=>cases e
theorem D5(hc:X.calm=true)(hK:X.K=G.K:=by rfl):pR X (.builtin "all") (λxs H Q=>∃(p:Addr) (bs:List Bool),xs=[.ref p]/\SqL G.K H p (bs.map V.bl)/\Q (.bl (bs.all id)) H):=by rw[<-hK];exact ES hc
inductive Ty where
 |b (n:String)|c (k:Nat)
def Ty.val(G:Bg):Ty->aa
 |.b n=>.type n
 |.c k=>.ref (G.ca k)
def Ty.v(G:Bg):Ty->V
 |.b n=>.ty n
 |.c k=>.ref (G.ca k)
def tyD:D->Ty
 |.non=>.b "NoneType" |.bl _=>.b "bool" |.int _=>.b "int" |.str _=>.b "str" |.tup _=>.b "tuple" |.lst _=>.b "list" |.fzl _=>.b "list" |.dic _ _=>.b "dict" |.obj c _ _=>.c c
structure D6(K:aj)(C:Addr):Prop where
 cl:Cls K C
 ha:ck K (.ref C) "__class__" = some (some (.builtin "object.__class__"))
 hn:lh K (.builtin "object.__class__") "__get__" = some (some (.builtin "getset_descriptor.__get__"))
 htk:W.takesIn K (.builtin "object.__class__")=some true
 hm:W.mroIn K C (.type "object")=some true
theorem Fn{pins:List (Addr×Obj)}{s:ae}{A:ay}{E:aa->ae->Prop}{Q:aa->ae->Prop}{c:aa}{b:Bool}{v:V}{u:aa}(I:Inv X pins σ H s)(hK:X.K=G.K)(hd:Rep G H d v)(rv:RelV v u)(hc:∀k ns ds,d=.obj k ns ds->D6 X.K (G.ca k))
  (e:cm X.K ((tyD d).val G) c=some b) (h:∀tk,Q (.bool b) { s with toks:=tk }):af (model X.prog X.w) A (call (.builtin "isinstance") [u,c]) Q E s:=by
 cases d with
 |non=>unfold Rep at hd;subst hd;exact rK I rv .non e h
 |bl x=>unfold Rep at hd;subst hd;exact rK I rv (.bl x) e h
 |int x=>unfold Rep at hd;subst hd;exact rK I rv (.int x) e h
 |str x=>unfold Rep at hd;subst hd;exact rK I rv (.str x) e h
 |tup ds=>unfold Rep at hd;obtain⟨a,xs,rfl,h1,h2⟩:=hd;cases rv;rw[<-hK]at h1;obtain⟨its,_,p,_⟩:=I.tuple h1;obtain⟨o,q1,q2,_⟩:=p;exact cb kT I.kIn ⟨o,q1,q2⟩ e (λz=>nomatch z) h
 |lst ds=>unfold Rep at hd;obtain⟨a,xs,rfl,h1,h2⟩:=hd;exact rK I rv (.lst h1) e h
 |fzl ds=>unfold Rep at hd;obtain⟨a,xs,rfl,h1,h2⟩:=hd;cases rv;rw[<-hK]at h1;obtain⟨its,_,p,_⟩:=I.list h1;obtain⟨o,n,q1,q2,_⟩:=p;exact cb iR I.kIn ⟨o,q1,q2⟩ e (λz=>nomatch z) h
 |dic ks ds=>unfold Rep at hd;obtain⟨a,o,xs,rfl,h1,h2,h3⟩:=hd;cases rv;obtain⟨q0,_,_,vs,_,ob,es,ep,q1,q2,_⟩:=(show o8 X.prog X.w H s.heap a (.frz o (.dK (ks.zip xs))) from I.hok a _ h1);exact cb iU I.kIn ⟨ob,q1,q2.1⟩ e (λz=>nomatch z) h
 |obj k ns ds=>have ci:=hc k ns ds rfl;unfold Rep at hd;obtain⟨a,dx,xs,rfl,h1,h2,h3⟩:=hd;exact rK I rv (.ins h1 ci.cl ci.ha ci.hn ci.htk ci.hm) e h
def qB(t:Ty->Option Bool):D->Option D:=λd=>(t (tyD d)).map .bl
theorem ze(c:Ty){t:Ty->Option Bool}(ht:∀y b,t y=some b->cm X.K (y.val G) (c.val G)=some b)(hc:∀k b,t (.c k)=some b->D6 X.K (G.ca k))(hK:X.K=G.K:=by rfl):
  pR X (.builtin "isinstance") (λxs H Q=>∃d x b,xs=[x,c.v G]/\Rep G H d x/\t (tyD d)=some b/\Q (.bl b) H):=by
 intro pins s σ H xs us Q I r h;obtain⟨d,x,b,rfl,hd,e,q⟩:=h;obtain⟨u,w',rfl,ru,rw'⟩:=vals2 r;have ew:w'=c.val G:=by cases c<;>exact rw'
 subst ew;exact Fn I hK hd ru (λk ns ds z=>by subst z;exact hc k b e) (ht _ _ e) λtk=>⟨.bl b,H,I.tok _,rfl,q⟩
theorem CB{c:Ty}{t:Ty->Option Bool}(h:PE X e (tCB (λxs H Q=>∃d x b,xs=[x,c.v G]/\Rep G H d x/\t (tyD d)=some b/\Q (.bl b) H) (xF (tF G f) (xF (tC (c.v G)) zI)))):PE X e (tF G (c1 (qB t) f)):=PE.weak h λσ H Q hh=>by
 obtain⟨F,ρ,H0,d,ρ',R,e,k⟩:=hh;obtain⟨x,e1,e2⟩:=xp e;unfold qB at e2;cases e3:t (tyD x)with
 |none=>rw[e3]at e2;cases e2
 |some b=>rw[e3]at e2;cases e2;exact⟨F,ρ,H0,x,ρ',R,e1,λv H1 H1' s R' r=>⟨x,v,b,rfl,Rep.mono R'.sub _ _ r,e3,k _ _ _ s R' (qr b)⟩⟩
def o4(f g:FE):FA:=λρ=>match f ρ with
 |some (.lst xs,ρ1)=>match g ρ1 with
  |some (.lst ys,ρ2)=>if xs.length+ys.length<=1000 then some (xs++ys,ρ2)else none
  |_=>none
 |_=>none
theorem Ii{a:Expr}{g:FE}(ha:PE X a (tF G f))(hb:PE X b (tF G g)):PE X (.BinOp a .Add b pos) (tFN G (o4 f g)):=PE.weak (Ey KD ha hb) λσ H Q hh=>by
 obtain⟨F,ρ,H0,d,ρ',R,e,k⟩:=hh;unfold o4 at e;split at e
 ·rename_i xs ρ1 e1;split at e
  ·rename_i ys ρ2 e2;split at e
   ·rename_i hl;cases e;refine⟨F,ρ,H0,_,ρ1,R,e1,λv H1 H1' s R' r=>⟨F,ρ1,H1,_,_,R',e2,λu H2 H2' s2 R2 r2=>?_⟩⟩;have r':=Rep.mono s2 _ _ r;unfold Rep at r' r2;obtain⟨a1,xs1,rfl,h1,h2⟩:=r';obtain⟨a2,xs2,rfl,h3,h4⟩:=r2;refine⟨a1,a2,xs1,xs2,rfl,rfl,R2.sub _ _ h1,R2.sub _ _ h3,by rw[<-nL h2,<- nL h4];exact qQ hl,λp hp=>?_⟩;exact k p _ _ _ (s.trans s2) (R2.newOwn hp _) nW (R2.h0none hp) (R2.bNone hp) (R2.apart hp) (pH h2 h4)
   ·cases e
  ·cases e
 ·cases e
def uH(f:FE):FA:=λρ=>match f ρ with
 |some (d,ρ1)=>match Fm d with
  |some ds=>some (ds,ρ1)
  |none=>none
 |none=>none
theorem Fo(h:PE X e (tCB (λxs H Q=>∃p ys,xs=[.ref p]/\(SqL G.K H p ys\/SqT G.K H p ys)/\∀l,H l=none->Q (.ref l) (upd H l (.lst ys))) (tFA G (aCons f ox)))):PE X e (tFN G (uH f)):=PE.weak h λσ H Q hh=>by
 obtain⟨F,ρ,H0,ds,ρ',R,e,k⟩:=hh;unfold uH at e;rcases n4 (f:=f) (ρ:=ρ)with e1|⟨d,ρ1,e1⟩<;>simp only[e1]at e
 ·cases e
 ·cases e2:Fm d with
  |none=>simp only[e2]at e;cases e
  |some ds'=>simp only[e2]at e;cases e;refine⟨F,ρ,H0,[d],_,R,by unfold aCons;rw[e1];rfl,λys H1 H1' s R' rs=>?_⟩;unfold nM at rs;obtain⟨v,r0,rfl,rv,rn⟩:=rs;unfold nM at rn;subst rn;obtain⟨p,xs,rfl,h1,h2⟩:=Cy rv e2;exact⟨p,xs,rfl,CA R'.sub h1,λl hl=>k l _ _ _ s (R'.newOwn hl _) nW (R'.h0none hl) (R'.bNone hl) (R'.apart hl) h2⟩
theorem BH(hK:X.K=G.K:=by rfl):pR X (.type "list") (λxs H Q=>∃p ys,xs=[.ref p]/\(SqL G.K H p ys\/SqT G.K H p ys)/\∀l,H l=none->Q (.ref l) (upd H l (.lst ys))):=by rw[<-hK];exact zQ
def cutD(xs:List D)(lo hi:Option Int):List D:=(xs.drop (HT.sIx xs.length 0 lo)).take (HT.sIx xs.length xs.length hi - HT.sIx xs.length 0 lo)
theorem Fp{lo hi:Option Int}(r:nM G H0 ds xs):nM G H0 (cutD ds lo hi) (DL xs lo hi):=by unfold cutD DL;rw[<-nL r];exact y8 _ (y7 _ r)
theorem Pc(hK:X.K=G.K:=by rfl):SlR X (Hf G.K):=by rw[<-hK];exact Hg
end
def Sl.bor:Sl->Sl
 |.un=>.un
 |.im d=>.im d
 |.ls ds=>.im (.lst ds)
 |.pm ds=>.im (.lst ds)
 |.dk _ _=>.un
 |.ob c ns ds=>.im (.obj c ns ds)
variable{fa fb fc:FE}{op':eB}
section
variable{X:Cx}{G:Bg}
theorem nY.bor{H:Hp}(R:nY G F σ ρ H0 H):nY G ⟨H,H,[]⟩ σ (ρ.map Sl.bor) H H where
 sub:=nR.refl _
 g0:=nR.refl _
 keep:=λb o e _=>e
 fr:=λb o e=>.inl e
 am:=λa h=>by cases h
 len:=by rw[ai];exact R.len
 sl:=λi s e=>by
  rw[bb]at e;cases e1:ρ[i]? with
  |none=>rw[e1]at e;cases e
  |some t=>
   rw[e1]at e;cases e;have ok:=R.sl i t e1;cases t with
   |un=>trivial
   |im d=>obtain⟨v,h1,h2⟩:=ok;exact⟨v,h1,Rep.mono R.sub _ _ h2⟩
   |ls ds=>obtain⟨a,xs,h1,h2,h3,h4,h5⟩:=ok;exact⟨_,h1,sW h2 (nM.mono R.sub _ _ h5)⟩
   |pm ds=>obtain⟨a,xs,h1,h2,h3,h4,h5⟩:=ok;exact⟨_,h1,sW h2 (nM.mono R.sub _ _ h5)⟩
   |dk ks ds=>trivial
   |ob c ns ds=>obtain⟨a,dx,xs,h1,h2,h3,h4,h5,h6⟩:=ok;exact⟨_,h1,by unfold Rep;exact⟨a,dx,xs,rfl,h2,h5,nM.mono R.sub _ _ h6⟩⟩
 ap:=λi j s t a _ e _ so=>by
  rw[bb]at e;cases e1:ρ[i]? with
  |none=>rw[e1]at e;cases e
  |some t=>rw[e1]at e;cases e;cases t<;>cases so
theorem nY.unbor{σ':St}{H:Hp}(R:nY G F σ ρ H0 H)(R':nY G ⟨H,H,[]⟩ σ' ρ' H1 H1'):nY G F σ ρ H0 H1':=
 R.grow (λb o e=>R'.keep b o e (by simp)) (nR.refl _) (λb o e=>R'.keep b o (R.sub _ _ e) (by simp)) λb o e=>.inl e
def sm(f:FE):FE:=λρ=>match f (ρ.map Sl.bor)with
 |some (d,_)=>if pZ d=true then some (d,ρ)else none
 |none=>none
def tL(f:FT):FT:=λρ=>match f (ρ.map Sl.bor)with
 |some (d,_)=>some (d,ρ)
 |none=>none
theorem Lm(h:PE X e (tF G f)):PE X e (tF G (sm f)):=PE.weak h λσ H Q hh=>by
 obtain⟨F,ρ,H0,d,ρ',R,e,k⟩:=hh;unfold sm at e;rcases n4 (f:=f) (ρ:=ρ.map Sl.bor)with e1|⟨x,ρ1,e1⟩<;>simp only[e1]at e
 ·cases e
 ·split at e
  ·rename_i hf;cases e;refine⟨_,_,H,d,ρ1,R.bor,e1,λv H1 H1' s R' r=>?_⟩;rw[rb r hf];exact k _ _ _ (nR.refl _) (R.unbor R') (vw hf _)
  ·cases e
theorem Ik{f:FT}(h:PT X e (tFT G f)):PT X e (tFT G (tL f)):=PT.weak h λσ H Q hh=>by
 obtain⟨F,ρ,H0,d,ρ',R,e,k⟩:=hh;unfold tL at e;rcases n4 (f:=f) (ρ:=ρ.map Sl.bor)with e1|⟨x,ρ1,e1⟩<;>simp only[e1]at e
 ·cases e
 ·cases e;exact⟨_,_,H,d,ρ1,R.bor,e1,λH1 H1' s R'=>k _ _ (nR.refl _) (R.unbor R')⟩
def qu(g g':D->D->Option D)(fa fb fc:FE):FE:=λρ=>match fa ρ with
 |some (x,ρ1)=>match fb ρ1 with
  |some (y,ρ2)=>match g x y with
   |some (.bl true)=>match fc ρ2 with
    |some (z,ρ3)=>match g' y z with
     |some w=>some (w,ρ3)
     |none=>none
    |none=>none
   |some (.bl false)=>some (.bl false,ρ2)
   |_=>none
  |none=>none
 |none=>none
theorem AV{r:R2}{g:D->D->Option D}(ho:OpD G r g)(ho':OpD G r' g'):∀σ H Q,tF G (qu g g' fa fb fc) σ H Q->Bp r r' (tF G fa) (tF G fb) (tF G fc) σ H Q:=λσ H Q hh=>by
 obtain⟨F,ρ,H0,d,ρ',R,e,k⟩:=hh;unfold qu at e;rcases n4 (f:=fa) (ρ:=ρ)with e1|⟨x,ρ1,e1⟩<;>simp only[e1]at e
 ·cases e
 rcases n4 (f:=fb) (ρ:=ρ1)with e2|⟨y,ρ2,e2⟩<;>simp only[e2]at e
 ·cases e
 refine⟨F,ρ,H0,x,ρ1,R,e1,λv H1 H1' s1 R1 r1=>⟨F,ρ1,H1,y,ρ2,R1,e2,λu H2 H2' s2 R2 r2=>?_⟩⟩;split at e
 ·rename_i e3;refine ho x y _ H2 H2' v u _ e3 R2.sub (Rep.mono s2 _ _ r1) r2 λw hw=>?_;have hw':=hw H2 (nR.refl _);unfold Rep at hw';refine⟨true,hw',AD ?_⟩;rcases n4 (f:=fc) (ρ:=ρ2)with e4|⟨z,ρ3,e4⟩<;>simp only[e4]at e
  ·cases e
  cases e5:g' y z with
  |none=>simp only[e5]at e;cases e
  |some q=>simp only[e5]at e;cases e;refine⟨F,ρ2,H2,z,_,R2,e4,λt H3 H3' s3 R3 r3=>?_⟩;exact ho' y z _ H3 H3' u t Q e5 R3.sub (Rep.mono s3 _ _ r2) r3 λw hw=>k w H3 H3' (s1.trans (s2.trans s3)) R3 (hw _ (nR.refl _))
 ·rename_i e3;cases e;refine ho x y _ H2 H2' v u _ e3 R2.sub (Rep.mono s2 _ _ r1) r2 λw hw=>?_;have hw':=hw H2 (nR.refl _);unfold Rep at hw';exact⟨false,hw',AC (k _ _ _ (s1.trans s2) R2 (qr false))⟩
 ·cases e
theorem Fq{a c:Expr}{r:R2}{g:D->D->Option D}(hr:OpR X (aU op) r)(hr':OpR X (aU op') r')(ho:OpD G r g)(ho':OpD G r' g')(ha:PE X a (tF G fa))(hb:PE X b (tF G fb))(hc:PE X c (tF G fc))
  (hm:lastMarks [op,op'] [b,c]=false:=by with_unfolding_all rfl):PE X (.Compare a [op,op'] [b,c] pos) (tF G (qu g g' fa fb fc)):=PE.weak (ED hr hr' ha hb hc hm) (AV ho ho')
theorem D7{a c:Expr}{r:R2}{g:D->D->Option D}(hr:OpR X (aU op) r)(hr':OpR X (aU op') r')(ho:OpD G r g)(ho':OpD G r' g')(ha:PE X a (tF G fa))(hb:PE X b (tF G fb))(hc:PE X c (tF G fc))
  (hm:lastMarks [op,op'] [b,c]=false:=by with_unfolding_all rfl):PT X (.Compare a [op,op'] [b,c] pos) (tFT G (cT (qu g g' fa fb fc))):=PT.weak (EE hr hr' ha hb hc hm) λσ H Q hh=>by
 obtain⟨F,ρ,H0,d,ρ',R,e,k⟩:=Cr σ H Q hh;exact AV ho ho' σ H _ ⟨F,ρ,H0,d,ρ',R,e,k⟩
end
def ud(P:aq)(w:ao)(K:aj)(mg:Str->Option aa)(base:Heap)(k:Nat)(x:Str)(ps:List Str)(sp:Sp):Prop:=
 ∃(f:Addr) (fd:bu),mg x=some (.ref f)/\cG K (.ref f)=true/\Binds K fd ps []/\qD P w K mg base CX0 k f fd ps sp
def z4(G:Bg)(P:aq)(w:ao)(mg:Str->Option aa)(base:Heap)(k:Nat)(x:Str)(c:Nat)(ps:List Str)(dvs:List V)(g:List D->Option (List Str×List D)):Prop:=
 ∃(f:Addr) (fd:bu) (ds:List aa),Mk G.K (G.ca c) f/\mg x=some (.ref (G.ca c))/\Binds G.K fd ps ds/\Vals dvs ds/\qD P w G.K mg base CX0 k f fd ps (spI G c g)
def wb(G:Bg)(P:aq)(w:ao)(mg:Str->Option aa)(base:Heap)(k:Nat)(m:Str)(c:Nat)(h:List D->Option D):Prop:=
 ∃(f:Addr) (fd:bu) (ps:List Str),Cls G.K (G.ca c)/\Meth G.K (G.ca c) m f/\Binds G.K fd ps []/\qD P w G.K mg base CX0 k f fd ps (spF G h)
section
variable{X:Cx}{G:Bg}{k:Nat}{x m:Str}{p pos apos:Pos}{e o:Expr}{es:List Expr}{a:FA}{ps:List Str}
theorem wF{α:Type}(g:List D->α):(λds=>g (ds++[]))=g:=funext λds=>by rw[bK]
theorem Ln{g:List D->Option D}(D:ud X.prog X.w X.K X.mg X.base k x ps (spF G g))(hr:pf k X.A)(ha:PA X (e::es) (tFA G a))(hg:Gl X x:=by rfl)(hdb:(x==("__debug__" : Str))=false:=by decide)(he:ar (e::es) X.env=(false,eval e X.env)::ar es X.env:=by rfl)(hpl:(aX pos (ar es X.env)).any (·.1)=false:=by rfl):
  PE X (.Call (.Name x p) (e::es) [] pos) (tF G (nN g a)):=by
 obtain⟨f,fd,h1,h2,h3,h4⟩:=D;have q:=HR (dvs:=[]) (dds:=[]) (λ_=>ot) (xn (p:=p) (pos:=pos) h4 hr hg h1 h2 h3 .nil xI ha hdb he hpl);rw[wF]at q;exact q
theorem Il{g:List D->Option D}(D:ud X.prog X.w X.K X.mg X.base k x ps (spF G g))(hr:pf k X.A)(hg:Gl X x:=by rfl)(hdb:(x==("__debug__" : Str))=false:=by decide):PE X (.Call (.Name x p) [] [] pos) (tF G (nN g ox)):=by obtain⟨f,fd,h1,h2,h3,h4⟩:=D;exact E8 (Ar h4 hr hg h1 h2 h3 .nil xI hdb)
theorem Im{g:List D->Option (List D)}(D:ud X.prog X.w X.K X.mg X.base k x ps (spN G g))(hr:pf k X.A)(ha:PA X (e::es) (tFA G a))(hg:Gl X x:=by rfl)(hdb:(x==("__debug__" : Str))=false:=by decide)(he:ar (e::es) X.env=(false,eval e X.env)::ar es X.env:=by rfl)(hpl:(aX pos (ar es X.env)).any (·.1)=false:=by rfl):
  PE X (.Call (.Name x p) (e::es) [] pos) (tFN G (o6 g a)):=by
 obtain⟨f,fd,h1,h2,h3,h4⟩:=D;have q:=E7 (dvs:=[]) (dds:=[]) (λ_=>ot) (xn (p:=p) (pos:=pos) h4 hr hg h1 h2 h3 .nil xI ha hdb he hpl);rw[wF]at q;exact q
theorem Fs{g:List D->Option (List D)}(D:ud X.prog X.w X.K X.mg X.base k x ps (spN G g))(hr:pf k X.A)(hg:Gl X x:=by rfl)(hdb:(x==("__debug__" : Str))=false:=by decide):PE X (.Call (.Name x p) [] [] pos) (tFN G (o6 g ox)):=by obtain⟨f,fd,h1,h2,h3,h4⟩:=D;exact DW (Ar h4 hr hg h1 h2 h3 .nil xI hdb)
theorem Io{g:List D->List D->Option (D×List D)}{i:Nat}(D:ud X.prog X.w X.K X.mg X.base k x ps (spM G g))(hr:pf k X.A)(hv:PE X e (sj i))(ha:PA X es (tFA G a))(hg:Gl X x:=by rfl)(hdb:(x==("__debug__" : Str))=false:=by decide)(he:ar (e::es) X.env=(false,eval e X.env)::ar es X.env:=by rfl)(hpl:(aX pos (ar es X.env)).any (·.1)=false:=by rfl):
  PE X (.Call (.Name x p) (e::es) [] pos) (tF G (rZ g i a)):=by
 obtain⟨f,fd,h1,h2,h3,h4⟩:=D;exact K2 (xn (p:=p) (pos:=pos) h4 hr hg h1 h2 h3 .nil xI (qY hv ha he) hdb he hpl)
theorem Ip{g:List D->Option (List Str×List D)}(M:z4 G X.prog X.w X.mg X.base k x c ps dvs g)(hd:∀H,nM G H dds dvs)(hr:pf (k+1) X.A)(ha:PA X (e::es) (tFA G a))(hK:X.K=G.K:=by rfl)(hg:Gl X x:=by rfl)(hdb:(x==("__debug__" : Str))=false:=by decide)
  (he:ar (e::es) X.env=(false,eval e X.env)::ar es X.env:=by rfl) (hpl:(aX pos (ar es X.env)).any (·.1)=false:=by rfl):
  PE X (.Call (.Name x p) (e::es) [] pos) (tF G (nX c (λds=>g (ds++dds)) a)):=by
 obtain⟨f,fd,ds,h1,h2,h3,h4,h5⟩:=M;rw[<-hK]at h1 h3 h5;exact HV hd (G4 (p:=p) (pos:=pos) h1 h5 hr hg h2 h3 h4 xI ha hdb he hpl)
theorem JD{g:Nat->Option (List D->Option D)}(M:∀c h,g c=some h->wb G X.prog X.w X.mg X.base k m c h)(hr:pf k X.A)(hK:X.K=G.K):∀C sp,MT G g C sp->MOk X C m sp [] E0:=λC sp h=>by obtain⟨c,h,e,rfl,rfl⟩:=h;obtain⟨f,fd,ps,q1,q2,q3,q4⟩:=M c h e;rw[<-hK]at q1 q2 q3 q4;exact⟨k,f,fd,ps,[],q1,q2,q4,hr,q3,.nil,xI⟩
theorem D8{g:Nat->Option (List D->Option D)}{pl:Sem Bool}(M:∀c h,g c=some h->wb G X.prog X.w X.mg X.base k m c h)(hr:pf k X.A)(ho:PE X o (tF G f))(ha:PA X (e::es) (tFA G a))(hK:X.K=G.K:=by rfl)
  (hst:ar (e::es) X.env=(false,eval e X.env)::ar es X.env:=by rfl) (hpl:(aX pos (ar es X.env)).any (·.1)=false:=by rfl)
  (ht:eval (.Call (.Attribute o m apos) (e::es) [] pos) X.env=(do
   let ov<-eval o X.env
   standAt apos.atName
   let (f,first)<-holding [ov] (getMethod ov m pl)
   callWith pos f first (aX pos (ar (e::es) X.env)) (backToKw pos (dh [] X.env))):=by rfl):
  PE X (.Call (.Attribute o m apos) (e::es) [] pos) (tF G (qz g m f a)):=HU (E:=E0) (Fb (dvs:=[]) (MT G g) (JD M hr hK) ho ha hst hpl ht)
theorem BI{g:Nat->Option (List D->Option D)}{pl:Sem Bool}(M:∀c h,g c=some h->wb G X.prog X.w X.mg X.base k m c h)(hr:pf k X.A)(ho:PE X o (tF G f))(hK:X.K=G.K:=by rfl)
  (ht:eval (.Call (.Attribute o m apos) [] [] pos) X.env=(do
   let ov<-eval o X.env
   standAt apos.atName
   let (f,first)<-holding [ov] (getMethod ov m pl)
   callWith pos f first (aX pos (ar [] X.env)) (backToKw pos (dh [] X.env))):=by rfl):
  PE X (.Call (.Attribute o m apos) [] [] pos) (tF G (qz g m f ox)):=Fc (E:=E0) (DY (dvs:=[]) (MT G g) (JD M hr hK) ho ht)
end
section
variable{P:aq}{w:ao}{K:aj}{mg:Str->Option aa}{base:Heap}{x qual:Str}{st:Stmt}{f T:Addr}{fd:bu}{N ps:List Str}{k:Nat}{G:Bg}
abbrev ue(P:aq)(w:ao)(K:aj)(mg:Str->Option aa)(base:Heap)(N:List Str)(qual:Str)(st:Stmt)(f:Addr)(cdv:aa)(A:ay)(outer:List Env)(s:ae)(H:Hp)(E:XK):Cx:=(zK CX0 P w K mg base N qual (nV st) f cdv A outer s H E).nox
theorem Ft{n:Nat}{g:List D->Option D}{b:FS}(hg:g=fnD np n b)(hp:ps.length=np)(hN:N.length=n)(F:Fun K x qual st f fd)(S:pJ N ps (nV st))(body:∀(cdv:aa) (A:ay) (outer:List Env) (s:ae) (H:Hp) (E:XK),pf k (A.deeper (envOfC qual (nV st) s.heap.objs.size f cdv))->PSs (ue P w K mg base N qual st f cdv A outer s H E) (oi st) (tFS G b)):
  qD P w K mg base CX0 (k+1) f fd ps (spF G g):=by
 subst hg hp hN;exact F.ok S (N2 HM) λcdv A outer s H vs Q E hr h=>⟨_,body cdv A outer s H E hr,HK (by have:=aL cg S.pre;rw[bp]at this;omega) h⟩
theorem Oe{n:Nat}{g:List D->Option (List D)}{b:FS}(hg:g=fnN np n b)(hp:ps.length=np)(hN:N.length=n)(F:Fun K x qual st f fd)(S:pJ N ps (nV st))(body:∀(cdv:aa) (A:ay) (outer:List Env) (s:ae) (H:Hp) (E:XK),pf k (A.deeper (envOfC qual (nV st) s.heap.objs.size f cdv))->PSs (ue P w K mg base N qual st f cdv A outer s H E) (oi st) (tFS G b)):
  qD P w K mg base CX0 (k+1) f fd ps (spN G g):=by
 subst hg hp hN;exact F.ok S (N3 HN) λcdv A outer s H vs Q E hr h=>⟨_,body cdv A outer s H E hr,HL (by have:=aL cg S.pre;rw[bp]at this;omega) h⟩
theorem Of{n:Nat}{g:List D->List D->Option (D×List D)}{b:FS}{p:Str}{ps:List Str}(hg:g=fnM np n b)(hp:ps.length=np)(hN:N.length=n)(F:Fun K x qual st f fd)(S:pJ N (p::ps) (nV st))(body:∀(cdv:aa) (A:ay) (outer:List Env) (s:ae) (H:Hp) (E:XK),pf k (A.deeper (envOfC qual (nV st) s.heap.objs.size f cdv))->PSs (ue P w K mg base N qual st f cdv A outer s H E) (oi st) (tFS G b)):
  qD P w K mg base CX0 (k+1) f fd (p::ps) (spM G g):=by
 subst hg hp hN;exact F.ok S (N5 Ia) λcdv A outer s H vs Q E hr h=>⟨_,body cdv A outer s H E hr,HZ (by have:=aL cg S.pre;rw[bp,aE]at this;omega) h⟩
theorem JE{g:List D->Option (List Str×List D)}(hg:∀ds q,g ds=some q->ds.length=np):∀vs H Q E,spI G c g vs H Q E->vs.length=np+1:=λvs H Q E h=>by obtain⟨p,dx,us,H0,ds,ns,es,rfl,_,_,_,r,e,_⟩:=h;rw[aE,<- nL r,hg _ _ e]
theorem Og{n:Nat}{g:List D->Option (List Str×List D)}{b:FS}{p:Str}{ps:List Str}(hg:g=fnI c np n b)(hp:ps.length=np)(hN:N.length=n)(F:Fun K x qual st f fd)(S:pJ N (p::ps) (nV st))(body:∀(cdv:aa) (A:ay) (outer:List Env) (s:ae) (H:Hp) (E:XK),pf k (A.deeper (envOfC qual (nV st) s.heap.objs.size f cdv))->PSs (ue P w K mg base N qual st f cdv A outer s H E) (oi st) (tFS G b)):
  qD P w K mg base CX0 (k+1) f fd (p::ps) (spI G c g):=by
 subst hg hp hN;exact F.ok S (JE λds q h=>(xR h).1) λcdv A outer s H vs Q E hr h=>⟨_,body cdv A outer s H E hr,zW (by have:=aL cg S.pre;rw[bp,aE]at this;omega) h⟩
theorem Lo{n:Nat}{g:List D->Option (List Str×List D)}{b:FS}{p:Str}{ps:List Str}(hg:g=fnI c np n b)(hp:ps.length=np)(hN:N.length=n)(F:DU K x qual st f fd T)(S:pJ N (p::ps) (nV st))(body:∀(cdv:aa) (A:ay) (outer:List Env) (s:ae) (H:Hp) (E:XK),pf k (A.deeper (envOfC qual (nV st) s.heap.objs.size f cdv))->PSs (ue P w K mg base N qual st f cdv A outer s H E) (oi st) (tFS G b)):
  qD P w K mg base CX0 (k+1) f fd (p::ps) (spI G c g):=by
 subst hg hp hN;exact F.ok S (JE λds q h=>(xR h).1) λcdv A outer s H vs Q E hr h=>⟨_,body cdv A outer s H E hr,zW (by have:=aL cg S.pre;rw[bp,aE]at this;omega) h⟩
end
section
variable{X:Cx}{G:Bg}
def uz(G:Bg)(mg:Str->Option aa)(x:Str)(d:D):Prop:=∃(v:V) (u:aa),mg x=some u/\RelV v u/\∀H,Rep G H d v
theorem Fu{x:Str}(h:uz G X.mg x d)(hg:Gl X x:=by rfl)(hd:(x==("__debug__" : Str))=false:=by decide):PE X (.Name x pos) (tF G (cC d)):=by obtain⟨v,u,h1,h2,h3⟩:=h;exact Hw (B7 hg h1 h2 hd) h3
def sq(i:Nat)(j:Int)(f:FE):FS:=λρ=>match f ρ with
 |some (d,ρ1)=>match pd ρ1 i with
  |some ds=>match ixN ds.length j with
   |some k=>some (.nx (putAt ρ1 i (ds.set k d)))
   |none=>none
  |none=>none
 |none=>none
theorem D9{st:Stmt}{i:Nat}{j:Int}(h:PS X st (uD (tF G f) (Kj (sj i) (tC (.int j)) EJ))):PS X st (tFS G (sq i j f)):=PS.weak h λE σ H hh=>by
 obtain⟨F,ρ,H0,o,R,e,k,k2⟩:=hh;unfold sq at e;rcases n4 (f:=f) (ρ:=ρ)with e1|⟨d,ρ1,e1⟩<;>simp only[e1]at e
 ·cases e
 cases e2:pd ρ1 i with
 |none=>simp only[e2]at e;cases e
 |some ds=>
  simp only[e2]at e;cases e3:ixN ds.length j with
  |none=>simp only[e3]at e;cases e
  |some m=>simp only[e3]at e;cases e;refine⟨F,ρ,H0,d,ρ1,R,e1,λv H1 H1' s R' r=>?_⟩;obtain⟨a,xs,s1,s2,s3,s4⟩:=pY R' e2;exact⟨.ref a,s1,a,xs,j,m,rfl,rfl,s2,by rw[<-nL s3];exact e3,k _ _ _ s (s4 _ _ (xP m s3 r))⟩
def pT(T:String):Ty->Option Bool
 |.b n=>if n="NoneType" then some false else if n="bool" then some (T=="bool" ||T=="int")else if n="int" then some (T=="int")else if n="str" then some (T=="str")else if n="tuple" then some (T=="tuple")else if n="list" then some (T=="list")else if n="dict" then some (T=="dict")else none
 |.c _=>none
theorem Fv{T:String}:∀k b,pT T (.c k)=some b->D6 X.K (G.ca k):=λk b h=>by cases h
theorem Fw:∀y b,pT "list" y=some b->cm X.K (y.val G) (.type "list")=some b:=λy b h=>by
 cases y with
 |c k=>cases h
 |b n=>
  unfold pT at h;simp only at h
  iterate 7 (split at h;· rename_i e;subst e;cases h;first|rfl|kernel_rfl)
  cases h
theorem Iq:∀y b,pT "str" y=some b->cm X.K (y.val G) (.type "str")=some b:=λy b h=>by
 cases y with
 |c k=>cases h
 |b n=>
  unfold pT at h;simp only at h
  iterate 7 (split at h;· rename_i e;subst e;cases h;first|rfl|kernel_rfl)
  cases h
end
end L4
namespace L3
open PySem PySem.Spec PyProof.Rows L2
theorem Ir{X:Cx}{i:Nat}{y:Str}{py spos:Pos}{elt iter tg:Expr}{ifs:List Expr}{scope:bW}{pos:Pos}{N':List Str}{k:Nat}{cap:List Nat}{wi:TI}{g:TG}{tt:TT}{te:TE}
  (hc:X.calm=true) (hN:X.N.Nodup) (hy:X.N[i]?=some y) (hyl:Loc X.env.scope y) (hi:PI X tg iter wi)
  (body:∀(cl:List (Str×Addr)) (C:Addr) (fp:List Addr) (s:ae) (H:Hp),PG (ph X N' scope cl C fp s H) tg g/\PIf (ph X N' scope cl C fp s H) ifs tt/\PE (ph X N' scope cl C fp s H) elt te)
  (hkind:scope.kind=.function:=by rfl) (hcell:(scope.names.all λy=>y.2 != .cell)=true:=by rfl)
  (hloc:(scope.names.all λy=>y.2 != .local||scope.names.lookup y.1==some .local)=true:=by rfl)
  (hfree:(scope.names.all λy=>y.2 != .free||(X.env.kindOf y.1==some .cell||X.env.kindOf y.1==some .free))=true:=by rfl)
  (hlen:N'.length=k+cap.length:=by rfl) (hcap:(N'.drop k).map some=cap.map λj=>X.N[j]?:=by rfl)
  (hcf:((N'.drop k).all λx=>scope.names.lookup x==some .free)=true:=by rfl)
  (hs:∀x,fF iter X.env x=pure x:=by intro _;rfl)
  (hsw:b9 (.ListComp elt [⟨tg,iter,ifs,0⟩] scope pos) (some (.Name y py)) spos.line X.env=pure true:=by rfl)
  (hfy:X.fn y=true\/X.env.scope.names.lookup y=some .local:=by first|exact .inl rfl|exact .inr rfl|assumption):
  PS X (.Assign [.Name y py] (.ListComp elt [⟨tg,iter,ifs,0⟩] scope pos) spos) (uD (wD wi g tt te k cap) (r9 i)):=by
 intro pins s σ H D I h;rw[exec_Assign_Name_used _ _ _ _ hsw];refine au (iF (au ?_));show af _ X.A (do let _<-comprehension (.ListComp elt [⟨tg,iter,ifs,0⟩] scope pos) scope X.env _ (newList []) false (eval iter X.env) (some (assign (.Name y py) X.env))) _ _ s;refine au (br (y6 (P:=λ_ s'=>SP X pins D .next s') hc hi body hkind hcell hloc hfree hlen hcap hcf hs I h λa C m u s4 H3 hn back fpC qn=>?_) (λ_ s' hq=>aD (aD hq)) λ_ _ e=>e);obtain⟨oC,esC,nC,gC,dC,rC⟩:=id hn;have I7:=back.pinned (fp:=[C]) (λb hb=>bg.mp hb▸fpC) (λb hb=>bg.mp hb▸⟨oC,gC,λv z=>by rw[dC]at z;cases z⟩);show af _ X.A (assign (.Name y py) X.env (.ref a)) _ _ s4;refine thn (B9 (pos:=py) hN hy hyl hfy _ s4 σ H3 (.ref a) (.ref a) (λσ' H'=>D.nx σ' H') I7 rfl qn) λ_ s6 zz=>?_;obtain⟨σ6,H6,I8,q6⟩:=zz;obtain⟨p1,p2,_⟩:=I8.pin (C,oC) (aK _ (aK _ (rN (by simp) gC)));exact⟨m,⟨oC,esC,nC,p1,dC,rC⟩,λh' hs'=>⟨σ6,H6,I8.unpinned.turned (t':=s6.toks) (λb o hb e=>(hs'.2 b hb).trans e) p2 fpC.2.1 fpC.2.2.2.1 fpC.2.2.2.2.1 fpC.2.2.2.2.2,q6⟩⟩
end L3
namespace L4
open PySem PySem.Spec PyProof.Rows L2 L3
variable{te:TE}{ft:FT}{fe:FE}
section
variable{X:Cx}{G:Bg}
theorem xY{st:Stmt}{te':TE}{g:TG}(h:PS X st (uD te g))(w:∀σ H Q,te' σ H Q->te σ H Q):PS X st (uD te' g):=PS.weak h λE σ H hh=>w _ _ _ hh
theorem Ea{st:Stmt}{i k:Nat}{cap:List Nat}{s:FA}{g:FG}(nd:cap.Nodup)(h:PS X st (uD (wD (tFI G s) (tFG G k g) (tFT G ft) (tF G fe) k cap) (r9 i))):PS X st (tFS G (qN i (nZ k cap s g ft fe))):=AK (xY h (zX nd))
theorem Fy{st:Stmt}{i k:Nat}{cap:List Nat}{s:FA}{g:FG}(nd:cap.Nodup)(h:PS X st (uD (wD (tFI G s) (tFG G k g) (tFT G ft) (tF G fe) k cap) (r9 i))):PS X st (tFS G (oJ i (cL (nZ k cap s g ft fe)))):=Ct (xY (xY h (zX nd)) N1)
end
variable{es0 es':List D}{np:Nat}
section
variable{f g h:FS}{c:FT}{e e' e2:FE}{a a':FA}{ρ ρ' ρ1 ρ2 ρ3:List Sl}{d x y z:D}{o:Out}{ds xs ys:List D}
theorem nJ(h:f ρ=some (.nx ρ')):nP f g ρ=g ρ':=by unfold nP;rw[h]
theorem rL(h:f ρ=some (.rt d ρ')):nP f g ρ=some (.rt d ρ'):=by unfold nP;rw[h]
theorem sZ(h:c ρ=some (true,ρ')):sIf c f g ρ=f ρ':=by unfold sIf;rw[h]
theorem rE(h:c ρ=some (false,ρ')):sIf c f g ρ=g ρ':=by unfold sIf;rw[h]
theorem o9{i:Nat}(h:e ρ=some (d,ρ')):oJ i e ρ=some (.nx (ρ'.set i (.im d))):=by unfold oJ;rw[h]
theorem z5{i:Nat}(h:a ρ=some (ds,ρ')):qN i a ρ=some (.nx (ρ'.set i (.ls ds))):=by unfold qN;rw[h]
theorem qv(h:e ρ=some (d,ρ')):oZ e ρ=some (.rt d ρ'):=by unfold oZ;rw[h]
theorem uA(h:a ρ=some (ds,ρ')):pX a ρ=some (.rn ds ρ'):=by unfold pX;rw[h]
theorem vx(h:e ρ=some (d,ρ')):qy e ρ=some (.nx ρ'):=by unfold qy;rw[h]
theorem AW{i k:Nat}{j:Int}(h:e ρ=some (d,ρ1))(h1:pd ρ1 i=some ds)(h2:ixN ds.length j=some k):sq i j e ρ=some (.nx (putAt ρ1 i (ds.set k d))):=by unfold sq;rw[h];simp only[h1,h2]
theorem om{g:D->D->Option D}(h1:e ρ=some (x,ρ1))(h2:e' ρ1=some (y,ρ2))(h3:g x y=some z):c2 g e e' ρ=some (z,ρ2):=by unfold c2;rw[h1];simp only[h2,h3]
theorem oI{g:D->Option D}(h1:e ρ=some (x,ρ1))(h3:g x=some z):c1 g e ρ=some (z,ρ1):=by unfold c1;rw[h1];simp only[h3]
theorem xZ(h1:e (ρ.map Sl.bor)=some (d,ρ1))(hf:pZ d=true):sm e ρ=some (d,ρ):=by unfold sm;rw[h1];simp only[hf,if_true]
theorem Iu{b:Bool}(h1:c (ρ.map Sl.bor)=some (b,ρ1)):tL c ρ=some (b,ρ):=by unfold tL;rw[h1]
theorem wc{b:Bool}(h1:e ρ=some (.bl b,ρ1)):cT e ρ=some (b,ρ1):=by unfold cT;rw[h1]
theorem nU(h1:e ρ=some (d,ρ1))(h2:a ρ1=some (ds,ρ2)):aCons e a ρ=some (d::ds,ρ2):=by unfold aCons;rw[h1];simp only[h2]
theorem n5{α:Type}{g:List D->Option α}{r:α}(h1:a ρ=some (ds,ρ1))(h2:g ds=some r):v7 g a ρ=some (r,ρ1):=by unfold v7;rw[h1];simp only[h2]
theorem p7(h1:a ρ=some (ds,ρ1)):cL a ρ=some (.lst ds,ρ1):=by unfold cL;rw[h1]
theorem Lp(h1:a ρ=some (ds,ρ1))(hl:ds.length<=1000):n6 a ρ=some (ds,ρ1):=by unfold n6;rw[h1];simp only[hl,if_true]
theorem qT(h1:e ρ=some (.lst xs,ρ1))(h2:e' ρ1=some (.lst ys,ρ2))(hl:xs.length+ys.length<=1000):o4 e e' ρ=some (xs++ys,ρ2):=by unfold o4;rw[h1];simp only[h2,hl,if_true]
theorem z6{g:List D->List D->Option (D×List D)}{i:Nat}{es:List D}(h0:pd ρ i=some es0)(h1:a ρ=some (ds,ρ1))(h2:pd ρ1 i=some es)(h3:g es ds=some (d,es')):rZ g i a ρ=some (d,putAt ρ1 i es'):=by unfold rZ;rw[h0];simp only[h1,h2,h3]
theorem BJ{i:Nat}{es:List D}(h0:pd ρ i=some es0)(h1:e ρ=some (d,ρ1))(h2:pd ρ1 i=some es)(hl:es.length<1000):v8 i e ρ=some (.non,putAt ρ1 i (es++[d])):=by unfold v8;rw[h0];simp only[h1,h2,hl,if_true]
theorem sr{s:FA}{g:FG}(h1:s ρ=some (ds,ρ1)):tU s g f ρ=forL g f ds ρ1:=by unfold tU;rw[h1]
theorem CC{k:Nat}{cap:List Nat}{s:FA}{g:FG}(h1:s ρ=some (ds,ρ1))(hl:ds.length<=1000):nZ k cap s g ft fe ρ=ua k cap g ft fe ds ρ1:=by unfold nZ;rw[h1];simp only[hl,if_true]
theorem FB{n:Nat}{b:FS}{es:List D}(hl:ds.length=np)(h:b (L4.stM n es ds)=some (.rt d ρ))(h0:vt ρ=some es'):fnM np n b es ds=some (d,es'):=by unfold fnM;rw[ag hl,h];simp only[h0]
theorem FC{n:Nat}{b:FS}{es:List D}(hl:ds.length=np)(h:b (L4.stM n es ds)=some (.rn xs ρ))(h0:vt ρ=some es'):fnM np n b es ds=some (.lst xs,es'):=by unfold fnM;rw[ag hl,h];simp only[h0]
theorem FD{n:Nat}{b:FS}(hl:ds.length=np)(h:b (L4.stE n ds)=some (.rn xs ρ)):fnN np n b ds=some xs:=by unfold fnN;rw[ag hl,h]
theorem p8{n:Nat}{b:FS}(hl:ds.length=np)(h:b (L4.stE n ds)=some (.rt d ρ)):fnD np n b ds=some d:=by unfold fnD;rw[ag hl,h]
end
def uX(es:List D):Prop:=(∃c,es=[.int c])\/∃q r n,es=[.int q,.int r,.int n]
theorem rM{a b:Int}(h:sk a=true\/sk b=true):rQ (.int a) (.int b)=some (.int (a * b)):=by unfold rQ dI;simp only;rw[ag (by simpa using h)]
theorem se{a b:Int}(h:0<b):qk (.int a) (.int b)=some (.int (a % b)):=by unfold qk dI;simp only;rw[ag (by simpa using h)]
theorem div_pos{a b:Int}(h:0<b)(h':b<1073741824):tK (.int a) (.int b)=some (.int (a / b)):=by unfold tK dI;simp only;rw[ag (by simp[h,h'])]
theorem AX{a:Int}(h:0<=a)(h':a<2147483647):sk a=true:=by unfold sk;simp only[aA,bF];omega
def xl:D->Option Key
 |.int i=>some (.inl i)
 |.str x=>some (.inr x)
 |_=>none
def x6:List Key->List D->Key->Option D
 |k::ks,d::ds,j=>if k=j then some d else x6 ks ds j
 |_,_,_=>none
def Iv(ks:List Key)(ds:List D)(k:Key)(d:D):List D:=fQ (λk' d'=>if k'=k then d else d') ks ds
def x8(ks:List Key)(k:Key):Bool:=ks.any λk'=>decide (k'=k)
variable{d:D}{a:Addr}{o:Obj}{kvs:List (Key×V)}{b tg e:Expr}{f fk:FE}{pos:Pos}
section
variable{X:Cx}{G:Bg}{H:Hp}
theorem xq{v:V}{k:Key}(h:Rep G H d v)(e:xl d=some k):v=kV k:=by
 cases d<;>first|cases e|skip
 all_goals (unfold Rep at h;exact h)
theorem AY:∀{ks:List Key} {ds:List D} {xs:List V} (j:Key),nM G H ds xs->ks.length=xs.length->match x6 ks ds j with
  |some d=>∃v,q9 (ks.zip xs) j=some v/\Rep G H d v
  |none=>q9 (ks.zip xs) j=none
 |[],ds,xs,j,r,l=>by cases ds<;>rfl
 |k::ks,ds,[],j,r,l=>by cases l
 |k::ks,[],x::xs,j,r,l=>by unfold nM at r;cases r
 |k::ks,d::ds,x::xs,j,r,l=>by
  unfold nM at r;obtain⟨v,q,e,h1,h2⟩:=r;cases e;unfold x6;by_cases hk:k=j
  ·rw[ag hk];exact⟨x,vh (p:=(k,x)) hk,h1⟩
  ·rw[ah hk];have ih:=AY (ks:=ks) (ds:=ds) (xs:=xs) j h2 (by simpa using l);have e1:q9 ((k::ks).zip (x::xs)) j=q9 (ks.zip xs) j:=vm (p:=(k,x)) hk;rw[e1];exact ih
theorem z7{k:Key}:∀{ks:List Key} {xs:List V},ks.length=xs.length->((ks.zip xs).any λkv=>decide (kv.1=k))=x8 ks k
 |[],xs,_=>by cases xs<;>rfl
 |k'::ks,[],l=>by cases l
 |k'::ks,x::xs,l=>by unfold x8;rw[dw,d7,d7,z7 (by simpa using l)];rfl
theorem CD{k:Key}{v:V}:∀{ks:List Key} {xs:List V},ks.length=xs.length->(ks.zip xs).map (λkv=>if kv.1=k then (kv.1,v)else kv)=ks.zip (fQ (λk' x=>if k'=k then v else x) ks xs)
 |[],xs,_=>by cases xs<;>rfl
 |k'::ks,[],l=>by cases l
 |k'::ks,x::xs,l=>by
  rw[dw,aN,CD (by simpa using l),gW,dw];congr 1;by_cases hk:k'=k
  ·rw[ag hk,ag hk]
  ·rw[ah hk,ah hk]
theorem AZ{k:Key}{d:D}{v:V}(hd:Rep G H d v):∀{ks:List Key} {ds:List D} {xs:List V},nM G H ds xs->ks.length=xs.length->nM G H (Iv ks ds k d) (fQ (λk' x=>if k'=k then v else x) ks xs)
 |[],ds,xs,r,l=>by unfold Iv;cases ds<;>cases xs<;>exact ot
 |k'::ks,ds,[],r,l=>by cases l
 |k'::ks,[],x::xs,r,l=>by unfold nM at r;cases r
 |k'::ks,d'::ds,x::xs,r,l=>by
  unfold nM at r;obtain⟨w,q,e,h1,h2⟩:=r;cases e;unfold Iv;rw[gW,gW];refine oB ?_ (AZ hd h2 (by simpa using l));by_cases hk:k'=k
  ·rw[ag hk,ag hk];exact hd
  ·rw[ah hk,ah hk];exact h1
theorem _root_.L2.DGet.kf{H:Hp}{k:Key}(e:H a=some (.frz o (.dK kvs))):DGet H a (kV k) (q9 kvs k):=.inl ⟨kvs,k,.inr ⟨o,e⟩,rfl,rfl⟩
def wG:D->D->Option D:=λx y=>match x,xl y with
 |.dic ks ds,some k=>x6 ks ds k
 |_,_=>none
theorem Iw{a:Expr}{f':FE}(hu:X.A.units+1<cLine)(ha:PE X a (tF G f))(hb:PE X b (tF G f'))(hs:KE b:=by exact λ_ _=>rfl):PE X (.Subscript a b pos) (tF G (c2 wG f f')):=PE.weak (Hk hu ha hb hs) λσ H Q hh=>by
 obtain⟨F,ρ,H0,d,ρ',R,e,k⟩:=hh;obtain⟨x,y,ρ1,e1,e2,e3⟩:=zV e;refine⟨F,ρ,H0,x,ρ1,R,e1,λv H1 H1' s1 R1 r1=>⟨F,ρ1,H1,y,ρ',R1,e2,λu H2 H2' s2 R2 r2=>?_⟩⟩;have r1':=Rep.mono s2 _ _ r1;cases x with
 |dic ks ds=>
  unfold wG at e3;cases ek:xl y with
  |none=>simp only[ek]at e3;cases e3
  |some j=>simp only[ek]at e3;unfold Rep at r1';obtain⟨p,ob,xs,rfl,h1,h2,h3⟩:=r1';have lv:=AY (ks:=ks) j h3 h2;rw[e3]at lv;obtain⟨w,w1,w2⟩:=lv;refine⟨p,w,rfl,?_,k w H2 H2' (s1.trans s2) R2 w2⟩;rw[xq r2 ek,<- w1];exact DGet.kf (R2.sub _ _ h1)
 |_=>unfold wG at e3;cases e3
def zf(i:Nat):FS:=λρ=>some (.nx (ρ.set i (.dk [] [])))
theorem FH{st:Stmt}{i:Nat}(h:PS X st (uD BA (r9 i))):PS X st (tFS G (zf i)):=PS.weak h λE σ H hh=>by obtain⟨F,ρ,H0,o,R,e,k,k2⟩:=hh;cases e;intro p hp;have R1:=R.newOwn hp (.dK []);refine k _ _ _ (nR.refl _) (R1.set (s:=.dk [] []) ⟨p,[],rfl,nW,R.h0none hp,R.bNone hp,rfl,ot⟩ λ_ a ea j t _ ej to=>?_);cases ea;exact R.apart hp j t ej to
def qU(i:Nat)(fk fv:FE):FS:=λρ=>match fv ρ with
 |some (d,ρ1)=>match ρ1[i]? with
  |some (.dk _ _)=>match fk ρ1 with
   |some (y,ρ2)=>match xl y with
    |some k=>match ρ2[i]? with
     |some (.dk ks ds)=>if ks.length<1000 then if ds.length=ks.length then some (.nx (ρ2.set i (if x8 ks k=true then .dk ks (Iv ks ds k d)else .dk (ks++[k]) (ds++[d]))))else none else none
     |_=>none
    |none=>none
   |none=>none
  |_=>none
 |none=>none
theorem FI{st:Stmt}{i:Nat}{fv:FE}(h:PS X st (Jw (sj i) (tF G fk) (tF G fv))):PS X st (tFS G (qU i fk fv)):=PS.weak h λE σ H hh=>by
 obtain⟨F,ρ,H0,o,R,e,k,k2⟩:=hh;unfold qU at e;rcases n4 (f:=fv) (ρ:=ρ)with e1|⟨d,ρ1,e1⟩<;>simp only[e1]at e
 ·cases e
 split at e
 ·rename_i ks0 ds0 ei;rcases n4 (f:=fk) (ρ:=ρ1)with e2|⟨y,ρ2,e2⟩<;>simp only[e2]at e
  ·cases e
  cases ek:xl y with
  |none=>simp only[ek]at e;cases e
  |some j=>
   simp only[ek]at e;split at e
   ·rename_i ks ds ei2;split at e
    ·rename_i hl;split at e
     ·rename_i hl2;cases e;refine⟨F,ρ,H0,d,ρ1,R,e1,λv H1 H1' s1 R1 r1=>?_⟩;obtain⟨a0,xs0,a1,_⟩:=R1.sl i _ ei;refine⟨_,qm a1,F,ρ1,H1,y,ρ2,R1,e2,λu H2 H2' s2 R2 r2=>?_⟩;obtain⟨a,xs,b1,b2,b3,b4,b5,b6⟩:=R2.sl i _ ei2;rw[a1]at b1;cases b1;refine⟨a0,upd H2' a0 (.dK (putK (ks.zip xs) j v)),rfl,?_,?_⟩
      ·rw[xq r2 ek];exact EM.k b2 (by rw[fL];exact ic (Nat.min_le_left _ _) (uy (by omega)))
      ·have rv:=Rep.mono s2 _ _ r1;refine k _ _ _ (s1.trans s2) (R2.mut ei2 rfl a1 (λH' hH=>?_) ?_)
       ·by_cases hk:x8 ks j=true
        ·rw[ag hk];refine⟨a0,fQ (λk' x=>if k'=j then v else x) ks xs,rfl,?_,b3,b4,by rw[jG,b5,fP],AZ rv b6 b5⟩;rw[hH];unfold putK;rw[z7 b5,ag hk,CD b5]
        ·rw[ah hk];refine⟨a0,xs++[v],rfl,?_,b3,b4,by rw[aB,aB,b5];rfl,pH b6 (oB rv ot)⟩;rw[hH];unfold putK;rw[z7 b5,ah hk,kj b5];rfl
       ·split<;>rfl
     ·cases e
    ·cases e
   ·cases e
 ·cases e
def x9:D->Option D
 |.lst ds=>(yP ds).map λbs=>.bl (bs.any id)
 |_=>none
theorem Eb(hc:X.calm=true)(hK:X.K=G.K:=by rfl):pR X (.builtin "any") (λxs H Q=>∃(p:Addr) (bs:List Bool),xs=[.ref p]/\SqL G.K H p (bs.map V.bl)/\Q (.bl (bs.any id)) H):=by
 rw[<-hK];intro pins s σ H xs us Q I r h;obtain⟨p,bs,rfl,hq,q⟩:=h;obtain⟨u,rfl,ru⟩:=vals1 r;cases ru;obtain⟨its,rv,pl,hz⟩:=I.list hq;have hlt:p<s.heap.objs.size:=by obtain⟨o,ho,_⟩:=pl.isList;exact aF ho
 have hl:bs.length=its.length:=by have:=rv.length;rw[ai]at this;exact this
 refine call_any_walk (fE pl.isList ⟨s.heap.objs.size,_,_,_,_,_,λi=>(bs[i]?).getD false,rfl,gG (show X.A.in1.handled=none from I.ok.hd hc) _ p (aR hlt) its.toArray,⟨⟨_,bx _ rfl,rfl,rfl⟩,?_⟩,?_,λh' tk hk=>?_⟩)
 ·exact pl.isList.at λo e=>aJ _ e
 ·intro i v s' Q' E' hv hQ';have hv':its[i]?=some v:=by simpa using hv
  have hi:i<its.length:=(bo.mp hv').1;have hb:(bs.map V.bl)[i]?=some (.bl (bs[i]'(by omega))):=by simp[show i<bs.length by omega]
  obtain⟨u,hu,ru⟩:=rv.get hb;rw[hv']at hu;cases hu;cases ru;refine cn ?_;have e:(bs[i]?).getD false=bs[i]'(by omega):=by simp[show i<bs.length by omega]
  rw[<-e];exact hQ'
 ·refine⟨.bl (bs.any id),H,?_,?_,q⟩
  ·exact I.kept (t':=tk) λb o e=>hk b o (by simp;exact aR (aF e)) (aJ _ e)
  ·show Value.bool _=Value.bool _;congr 1;rw[aQ,<- hl];rw[dB];simp only[bS,bA,id];constructor
   ·rintro⟨i,hi,h⟩;exact⟨bs[i],dS hi,by simpa [hi]using h⟩
   ·rintro⟨b,hb,h⟩;obtain⟨i,hi,rfl⟩:=dQ.mp hb;exact⟨i,hi,by simpa [hi]using h⟩
theorem Lq:zd G (λxs H Q=>∃(p:Addr) (bs:List Bool),xs=[.ref p]/\SqL G.K H p (bs.map V.bl)/\Q (.bl (bs.any id)) H) x9:=λx z H0 H v Q e s rx k=>by
 cases x with
 |lst ds=>
  unfold x9 at e;simp only at e;cases e1:yP ds with
  |none=>rw[e1]at e;cases e
  |some bs=>rw[e1]at e;cases e;unfold Rep at rx;obtain⟨a,xs,rfl,h1,h2⟩:=rx;rw[xX h2 e1]at h1;exact⟨a,bs,rfl,s.seq (SqL.of h1),k _ λ_ _=>qr _⟩
 |_=>cases e
def iS(f:FE):FA:=λρ=>match f ρ with
 |some (.str x,ρ')=>some (x.cps.toList.map λc=>D.str ⟨#[c]⟩,ρ')
 |_=>none
theorem Iy(h:PI X tg e (NU (tF G f))):PI X tg e (tFI G (iS f)):=PI.weak h λσ H R hh=>by
 obtain⟨F,ρ,H0,ds,ρ',R,e,k⟩:=hh;unfold iS at e;split at e
 ·rename_i x ρ1 e1;cases e;refine⟨F,ρ,H0,_,_,R,e1,λv H1 H1' s R' r=>?_⟩;unfold Rep at r;refine⟨x,r,k _ _ _ s R' λi H2 H2' t t'=>⟨λd ed=>?_,λhl=>?_⟩⟩
  ·rw[bb]at ed;cases ec:x.cps.toList[i]? with
   |none=>rw[ec]at ed;cases ed
   |some c=>
    rw[ec]at ed;cases ed;have ec':x.cps[i]?=some c:=by simpa using ec
    refine⟨(fV.mp ec').1,λz H3 y=>?_⟩;obtain⟨e3,c',hc',rfl⟩:=y;rw[ec']at hc';cases hc';subst e3;exact⟨H2,nR.refl _,t',nR.refl _,λb o e=>.inl e,vn _⟩
  ·show i=x.cps.size;rw[hl,ai];simp
 ·cases e
def wH(f g:FE):FE:=λρ=>match f ρ with
 |some (.tup (x::xs),ρ1)=>match g ρ1 with
  |some (.tup ys,ρ2)=>if xs.length+ys.length<=900 then some (.tup (x::xs++ys),ρ2)else none
  |_=>none
 |_=>none
theorem IA{a:Expr}{g:FE}(ha:PE X a (tF G f))(hb:PE X b (tF G g))(hK:X.K=G.K:=by rfl):PE X (.BinOp a .Add b pos) (tF G (wH f g)):=PE.weak (Ey G9 ha hb) λσ H Q hh=>by
 rw[hK];obtain⟨F,ρ,H0,d,ρ',R,e,k⟩:=hh;unfold wH at e;split at e
 ·rename_i x xs ρ1 e1;split at e
  ·rename_i ys ρ2 e2;split at e
   ·rename_i hl;cases e;refine⟨F,ρ,H0,_,ρ1,R,e1,λv H1 H1' s R' r=>⟨F,ρ1,H1,_,_,R',e2,λu H2 H2' s2 R2 r2=>?_⟩⟩;have r':=Rep.mono s2 _ _ r;have r0:=r';unfold Rep at r' r2;obtain⟨a1,xs1,rfl,h1,h2⟩:=r';obtain⟨a2,xs2,rfl,h3,h4⟩:=r2;have l1:=nL h2;have l2:=nL h4;rw[aE]at l1;refine⟨a1,a2,xs1,xs2,rfl,rfl,SqT.mono R2.sub h1,SqT.mono R2.sub h3,(λz=>by rw[z]at l1;cases l1),by rw[<-l1,<- l2];exact qQ (by omega),λz=>?_,λ_ p hp=>?_⟩
    ·have ey:ys=[]:=by rw[z]at l2;exact List.length_eq_zero_iff.mp l2
     subst ey;rw[bK]at k;exact k _ _ _ (s.trans s2) R2 r0
    ·exact k _ _ _ ((s.trans s2).trans (og (R2.h0none hp) _)) (R2.newIm hp _) (zU (SqT.of nW) (nM.mono (og (R2.h0none hp) _) _ _ (pH h2 h4)))
   ·cases e
  ·cases e
 ·cases e
end
section
variable{X:Cx}{G:Bg}
abbrev FO:=List Sl->Option (Option Int×List Sl)
def tFO(G:Bg)(f:FO):TO:=λσ H Q=>∃F ρ H0 d ρ',nY G F σ ρ H0 H/\f ρ=some (d,ρ')/\∀H0' H',nR H0 H0'->nY G F σ ρ' H0' H'->Q d H'
def oNo:FO:=λρ=>some (none,ρ)
def oAt(f:FE):FO:=λρ=>match f ρ with
 |some (.int i,ρ')=>some (some i,ρ')
 |_=>none
theorem PO.weak{e:Option Expr}{t t':TO}(h:PO X e t)(w:∀σ H Q,t' σ H Q->t σ H Q):PO X e t':=λpins s σ H Q I hq=>h pins s σ H Q I (w _ _ _ hq)
theorem Lr:PO X none (tFO G oNo):=PO.weak G7 λσ H Q hh=>by obtain⟨F,ρ,H0,d,ρ',R,e,k⟩:=hh;cases e;exact k _ _ (nR.refl _) R
theorem Ls(h:PE X e (tF G f)):PO X (some e) (tFO G (oAt f)):=PO.weak (G8 h) λσ H Q hh=>by
 obtain⟨F,ρ,H0,d,ρ',R,e,k⟩:=hh;unfold oAt at e;split at e
 ·rename_i i ρ1 e1;cases e;refine⟨F,ρ,H0,_,_,R,e1,λv H1 H1' s R' r=>?_⟩;unfold Rep at r;exact⟨i,r,k _ _ s R'⟩
 ·cases e
def tm(f:FE)(lo hi:FO):FA:=λρ=>match f ρ with
 |some (d,ρ1)=>match d with
  |.lst ds=>match lo ρ1 with
   |some (l,ρ2)=>match hi ρ2 with
    |some (h,ρ3)=>some (cutD ds l h,ρ3)
    |none=>none
   |none=>none
  |.fzl ds=>match lo ρ1 with
   |some (l,ρ2)=>match hi ρ2 with
    |some (h,ρ3)=>some (cutD ds l h,ρ3)
    |none=>none
   |none=>none
  |_=>none
 |none=>none
theorem BK{lo hi:FO}(h:PE X e (tSl (Hf G.K) (tF G f) (tFO G lo) (tFO G hi))):PE X e (tFN G (tm f lo hi)):=PE.weak h λσ H Q hh=>by
 obtain⟨F,ρ,H0,ds,ρ',R,e,k⟩:=hh;unfold tm at e;rcases n4 (f:=f) (ρ:=ρ)with e1|⟨d,ρ1,e1⟩<;>simp only[e1]at e
 ·cases e
 have gen:∀(xs:List D),(∀{H1:Hp} {v:V},Rep G H1 d v->∃a ys,v=.ref a/\SqL G.K H1 a ys/\nM G H1 xs ys)->(match lo ρ1 with
   |some (l,ρ2)=>match hi ρ2 with
    |some (h,ρ3)=>some (cutD xs l h,ρ3)
    |none=>none
   |none=>none)=some (ds,ρ')->tSl (Hf G.K) (tF G f) (tFO G lo) (tFO G hi) σ H Q:=λxs rd e=>by
  rcases n4 (f:=lo) (ρ:=ρ1)with e2|⟨l,ρ2,e2⟩<;>simp only[e2]at e
  ·cases e
  rcases n4 (f:=hi) (ρ:=ρ2)with e3|⟨u,ρ3,e3⟩<;>simp only[e3]at e
  ·cases e
  cases e;refine⟨F,ρ,H0,d,ρ1,R,e1,λv H1 H1' s1 R1 r1=>⟨F,ρ1,H1,l,ρ2,R1,e2,λH2 H2' s2 R2=>⟨F,ρ2,H2,u,_,R2,e3,λH3 H3' s3 R3=>?_⟩⟩⟩;obtain⟨a,ys,rfl,q1,q2⟩:=rd (Rep.mono (s2.trans s3) _ _ r1);exact⟨a,ys,rfl,R3.sub.seq q1,λp hp=>k p _ _ _ (s1.trans (s2.trans s3)) (R3.newOwn hp _) nW (R3.h0none hp) (R3.bNone hp) (R3.apart hp) (Fp q2)⟩
 cases d with
 |lst xs=>exact gen xs (λr=>by unfold Rep at r;obtain⟨a,ys,rfl,q1,q2⟩:=r;exact⟨a,ys,rfl,SqL.of q1,q2⟩) e
 |fzl xs=>exact gen xs (λr=>by unfold Rep at r;exact r) e
 |_=>cases e
end
section
variable{X:Cx}{G:Bg}
def z8:FE:=λ_=>none
theorem FJ:PE X e (tF G z8):=λpins s σ H Q I h=>by obtain⟨F,ρ,H0,d,ρ',R,e,_⟩:=h;cases e
def BL(G:Bg)(c:Nat)(t:Ty->Option Bool):Prop:=(∀y b,t y=some b->cm G.K (y.val G) (.ref (G.ca c))=some b)/\∀j b,t (.c j)=some b->D6 G.K (G.ca j)
theorem BM{c:Nat}{t:Ty->Option Bool}(h:BL G c t)(hK:X.K=G.K:=by rfl):pR X (.builtin "isinstance") (λxs H Q=>∃d x b,xs=[x,(Ty.c c).v G]/\Rep G H d x/\t (tyD d)=some b/\Q (.bl b) H):=
 ze (X:=X) (.c c) (by rw[hK];exact h.1) (by rw[hK];exact h.2) hK
end
def ddp(acc:List Key)(k:Key):List Key:=if acc.any (λz=>decide (z=k))then acc else acc++[k]
def rR(ks:List Key):List Key:=ks.foldl ddp []
theorem IB(acc:List Key)(k j:Key):(ddp acc k).any (λz=>decide (z=j))=(acc.any (λz=>decide (z=j))||decide (j=k)):=by
 unfold ddp;by_cases h:acc.any (λz=>decide (z=k))=true
 ·rw[ag h];by_cases e:j=k
  ·subst e;rw[h];simp
  ·simp[e]
 ·rw[ah h,List.any_append];by_cases e:j=k
  ·subst e;simp
  ·have hb:¬k=j:=λz=>e z.symm;simp[hb,e]
theorem CG(acc:List Key)(k:Key):(ddp acc k).length=if acc.any (λz=>decide (z=k))=true then acc.length else acc.length+1:=by unfold ddp;split<;>simp
theorem zg(ks:List Key)(i:Nat)(h:i<ks.length):rR (ks.take (i+1))=ddp (rR (ks.take i)) ks[i]:=by unfold rR;rw[jY,aS h,iq];rfl
theorem FK(ks:List Key):(rR ks).length<=ks.length:=by
 have gen:∀(l:List Key) (acc:List Key),(l.foldl ddp acc).length<=acc.length+l.length:=by
  intro l
  induction l with
  |nil=>intro acc;simp
  |cons k l ih=>
   intro acc;rw[cP,aE];have h1:=ih (ddp acc k);have h2:(ddp acc k).length<=acc.length+1:=by rw[CG];split<;>omega
   omega
 have:=gen ks [];simpa [rR]using this
theorem set_same{prog:aq}{w:ao}{h:Heap}{S S':Key->Bool}{n n':Nat}(hS:h.SetOf (oa prog w) a S n)(e:∀k,S k=S' k)(en:n=n'):h.SetOf (oa prog w) a S' n':=by obtain rfl:S=S':=funext e;subst en;exact hS
section
variable{prog:aq}{w:ao}{A:ay}{R:cY->ae->Prop}{I:Addr}{fp wr:List Addr}{GG:Array eA->Array eA->Prop}{n:Nat}{PP:Nat->aa->Prop}{SS:Nat->ae->Prop}
theorem FL(W:WalksS prog w A.in1 I fp wr GG n PP SS)(S:Addr)(hSf:S∉fp)(ks:List Key)(hn:ks.length=n)
  (hval:∀i v (h:i<ks.length),PP i v->(oa prog w).is ks[i] v=true/\v.scannable=true) (hb:n+1<scanBound):∀(k i:Nat) (s:ae),n - i=k->i<=n->SS i s->
   s.heap.SetOf (oa prog w) S (λj=>(rR (ks.take i)).any (λz=>decide (z=j))) (rR (ks.take i)).length->
   (∀s',Moved (S::wr) GG s s'->s'.heap.SetOf (oa prog w) S (λj=>(rR ks).any (λz=>decide (z=j))) (rR ks).length->R (.ok (.ret .none)) s')->
   bV (model prog w) A (.builtin "set.update.loop" ⟨[.ref S,.ref I],[]⟩) R s:=by
 have hSw:S∉wr:=λz=>hSf (W.sub _ z);have up:∀b∈wr,b∈S::wr:=λb z=>aM _ z;intro k
 induction k with
 |zero=>
  intro i s hk hi hst hS hR;obtain rfl:i=n:=by omega
  refine eG fY ?_;rw[fz dP _];show af _ A.in1 (pyNext (.ref I)>>=_) _ _ s;refine au (W.done s _ _ hst λs' hm=>?_);show af _ A.in1 (ret Value.none) _ _ s';rw[f6 (by omega)]at hS;refine aD (hR s' (hm.mono up) ?_);obtain⟨o,es,ep,t,ho,more⟩:=hS;exact⟨o,es,ep,t,hm.heap S _ hSw ho,more⟩
 |succ k ih=>
  intro i s hk hi hst hS hR;have hlt:i<n:=by omega
  have hlk:i<ks.length:=by omega
  refine eG fY ?_;rw[fz dP _];show af _ A.in1 (pyNext (.ref I)>>=_) _ _ s;refine au (W.item i s _ _ hlt hst λv s' hP hst' hm=>?_);obtain⟨kv,sc⟩:=hval i v hlk hP;have hS':s'.heap.SetOf (oa prog w) S (λj=>(rR (ks.take i)).any (λz=>decide (z=j))) (rR (ks.take i)).length:=by obtain⟨o,es,ep,t,ho,more⟩:=hS;exact⟨o,es,ep,t,hm.heap S _ hSw ho,more⟩
  show af _ A.in1 (holding [v] (setAdd S v)>>=_) _ _ s';refine au (de ?_);unfold setAdd;refine de ?_;refine au ((oa prog w).pyHash (k:=ks[i]) kv ?_);have room:(rR (ks.take i)).length+1<scanBound:=by have:=FK (ks.take i);rw[bp]at this;omega
  refine wpAny_setAddHashed_of (knd:=oa prog w) (s:={ s' with toks:=s'.toks+1 }) kv sc hS' room λh' hsb hS2=>?_;have hSi:h'.SetOf (oa prog w) S (λj=>(rR (ks.take (i+1))).any (λz=>decide (z=j))) (rR (ks.take (i+1))).length:=
   set_same hS2 (λj=>by rw[zg ks i hlk,IB]) (by rw[zg ks i hlk,CG])
  refine aD ⟨gp dP _,ih (i+1) _ (by omega) hlt (W.frame _ s' _ _ hst' (gz _) λb z o e=>?_) hSi λs'' hm'' hS''=>?_⟩
  ·rw[hsb.2 b (λy:b=S=>hSf (by rw[<-y];exact z))];exact e
  ·refine hR s'' (iW W.gtrans ((hm.mono up).then_heap (gz _) λb o z e=>?_) hm'') hS'';rw[hsb.2 b (λy:b=S=>z (by rw[y];exact aH))];exact e
end
theorem IC(l:Addr)(us:Array aa)(m:Nat)(b:Addr)(o:Obj)(ws:Array aa)(m2:Nat)(hc:o.cls=.type "tuple")(hd:o.data=.seq ws m2)(z0:¬(!us.isEmpty&&fq (us.size+ws.size))=true)(z1:us.size<=az)(z2:us.size+ws.size<=az+1):
  Meets (Builtin.«list.extend» ⟨[.ref l,.ref b],[]⟩) (λ_ R s=>s.heap.get? l=some { cls:=.type "list", data:=.seq us m }/\s.heap.get? b=some o/\R (.ok (.ret Value.none)) { s with heap:=s.heap.update l (eU λx=>x++ws),toks:=s.toks }):=by
 obtain⟨c,dd,data,sl⟩:=o;cases hc;cases hd;refine .of_wp λprog w A R s h=>?_;obtain⟨hp,g,d,tk,os⟩:=s;obtain⟨hl,hb,h⟩:=h;have f2:=AutoSeq1.sub_tuple_tuple;have f3:=AutoSeq1.sub_list_list;have f4:=AutoSeq1.sub_tuple_list;have f5:=AutoSeq1.sub_list_tuple;have z3:(us++ws).size<=az+1:=Array.size_append (xs:=us) (ys:=ws)▸z2
 wp_walk using (wpAny_updateSeq hl rfl (hz:=z1) (_hz':=z3)),jf hl,jf hb
 exact⟨_,rfl,h⟩
section
variable{X:Cx}{G:Bg}
def A0(K:aj):V->List V->Hp->VK->Prop:=λx vs H Q=>∃l b xs zs,x=.ref l/\vs=[.ref b]/\H l=some (.lst xs)/\SqT K H b zs/\xs.length+zs.length<=az/\Q .non (upd H l (.lst (xs++zs)))
theorem BN:MtM X "list.extend" (A0 X.K):=by
 intro pins s σ H x vs v us Q I rx rv h;obtain⟨l,b,xs,zs,rfl,rfl,hH,hB,hz,q⟩:=h;cases rx;obtain⟨u,rfl,ru⟩:=rv.one;cases ru;obtain⟨z,its,n,r,hl,e⟩:=I.lstM hH;obtain⟨its2,r2,⟨o,e2,hc,n2,hd⟩,hz2⟩:=I.tuple hB;have hl2:=r2.length;have hsz:its.toArray.size+its2.toArray.size<=az:=by rw[aQ,aQ];omega
 have hlong:¬(!its.toArray.isEmpty&&fq (its.toArray.size+its2.toArray.size))=true:=by rw[Ax hsz,dF];exact bf
 refine i5 gb ⟨_,e,rfl⟩ jF (jA _ _)
  (IC l its.toArray n b o its2.toArray n2 hc hd hlong (by rw[aQ];omega) (by omega)) ⟨e,e2,?_⟩
 refine⟨.non,_,I.lset (its':=its++its2) hH e (by simp) (r.append r2) ?_,rfl,q⟩;rw[aB];omega
def uf(i:Nat)(f:FE):FE:=λρ=>match pd ρ i with
 |some _=>match f ρ with
  |some (.tup es,ρ1)=>match pd ρ1 i with
   |some ds=>if ds.length+es.length<=1000 then some (.non,putAt ρ1 i (ds++es))else none
   |none=>none
  |_=>none
 |none=>none
theorem BO{i:Nat}(h:PE X e (tBM G.K "list" (A0 G.K) (sj i) (xF (tF G f) zI))):PE X e (tF G (uf i f)):=PE.weak h λσ H Q hh=>by
 obtain⟨F,ρ,H0,d,ρ',R,e,k⟩:=hh;unfold uf at e;cases e0:pd ρ i with
 |none=>simp only[e0]at e;cases e
 |some ds0=>
  simp only[e0]at e;rcases n4 (f:=f) (ρ:=ρ)with e1|⟨x,ρ1,e1⟩<;>simp only[e1]at e
  ·cases e
  ·cases x with
   |tup es=>
    cases e2:pd ρ1 i with
    |none=>simp only[e2]at e;cases e
    |some ds=>
     simp only[e2]at e;split at e
     ·rename_i hl;cases e;obtain⟨a,xs,s1,s2,s3,_⟩:=pY R e0;refine⟨.ref a,s1,.inl ⟨rfl,xs,SqL.of s2⟩,F,ρ,H0,_,ρ1,R,e1,λv H1 H1' s R' rs=>?_⟩;unfold Rep at rs;obtain⟨p,ys,rfl,hp,rs⟩:=rs;obtain⟨a',xs',t1,t2,t3,t4⟩:=pY R' e2;rw[s1]at t1;cases t1;refine⟨a,p,xs',ys,rfl,rfl,t2,SqT.mono R'.sub hp,?_,k _ _ _ s (t4 _ _ (pH t3 rs)) vo⟩;rw[<-nL t3,<- nL rs];exact qQ hl
     ·cases e
   |_=>cases e
end
abbrev one(j:Nat)(led pl:Bool):bj:=⟨7,#[j],#[],0,led,0,pl⟩
variable{ks:List Key}
section
variable{prog:aq}{w:ao}{A:ay}{E:aa->ae->Prop}{s:ae}
abbrev TK(prog:aq)(w:ao):=IsTupleKey (oa prog w)
theorem cls_val(n:Nat){v:aa}(h:iB v=true):fG n v=pure false:=by
 cases v with
 |ref a=>simp[iB]at h
 |_=>first|rfl|simp[fG]|(unfold fG;rfl)
theorem CH{Q:Bool->ae->Prop}(hk:TK prog w s.heap ks a)(h:Q false s):af (model prog w) A (fG 8 (.ref a)) Q E s:=by
 have hT:=hk.typeIs;obtain⟨o,items,n,ho,_,hd,hi⟩:=hk;unfold fG;refine au (wpAny_typeOf hT ?_);show af _ _ (pure true>>=_) _ _ s;refine au (aD ?_);simp only[Bool.not_true,fD,if_false];refine au (ku ho hd ?_);refine au ?_;show af _ _ (forIn items _ _) _ _ s;rw[<-jQ];refine iw _ (λrest r s'=>r.1=none/\s'=s/\∀v∈rest,iB v=true) _ ?_ ?_ _ _ ⟨rfl,rfl,hi.byValue⟩
 ·rintro v rest r s' ⟨hr,rfl,hall⟩;rw[cls_val _ (hall v aH)];refine au (aD ?_);simp only[fD,if_false];exact aD ⟨rfl,rfl,λu hu'=>hall u (aM _ hu')⟩
 ·rintro⟨r1,r2⟩ s' ⟨hr,rfl,_⟩;simp only at hr;subst hr;exact aD h
end
variable{ep:Nat}
section
variable{prog:aq}{w:ao}{A:ay}{E:aa->ae->Prop}{s:ae}
theorem FM{hp:Heap}{S:Addr}{es es':Array (Int×aa)}{t t':bj}(ho:hp.get? S=some o)(hd:o.data=.set es ep t):(hp.update S (i7 es' t')).get? S=some { o with data:=.set es' (ep+1) t' }:=by have:=jw (i7 es' t') ho (by rw[putSet_of es' t' hd];rfl);rw[putSet_of es' t' hd]at this;exact this
end
section
variable{prog:aq}{w:ao}{A:ay}{R:cY->ae->Prop}{I:Addr}{fp wr:List Addr}{GG:Array eA->Array eA->Prop}{PP:Nat->aa->Prop}{SS:Nat->ae->Prop}
theorem TK.kept{h h':Heap}(t:TK prog w h ks a)(e:∀o,h.get? a=some o->h'.get? a=some o):TK prog w h' ks a:=by obtain⟨o,its,n,ho,m⟩:=t;exact⟨o,its,n,e o ho,m⟩
def Oh(h:Heap)(S:Addr)(n:Nat):Prop:=∃o es ep t,h.get? S=some o/\o.ExactSet/\o.data=.set es ep t/\es.size<scanBound/\t.fits es.size=true/\es.size=n
end
theorem sub_tuple_set:isSubtype (.type "tuple") (.type "set")=pure false:=by rw[kx];kernel_rfl
theorem sub_tuple_frozenset:isSubtype (.type "tuple") (.type "frozenset")=pure false:=by rw[kx];kernel_rfl
variable{ax:Addr}{itO:Obj}
section
variable{prog:aq}{w:ao}{A:ay}{E:aa->ae->Prop}{s:ae}{Q:aa->ae->Prop}
abbrev su(led:Bool):Obj:={ cls:=.type "set", dict:=none,data:=.set #[] 0 (.fresh 0 0 led) }
abbrev inK(ks:List Key):Key->Bool:=λj=>(rR ks).any (λz=>decide (z=j))
structure Oi(prog:aq)(w:ao)(h:Heap)(a:Addr)(items:Array aa)(ks:List Key):Prop where
 len:ks.length=items.size
 key:∀i v (hi:i<ks.length),items[i]?=some v->(oa prog w).is ks[i] v=true/\v.scannable=true
 bnd:items.size+1<scanBound
def ID(s:ae)(PS:Heap->Prop)(E:aa->ae->Prop):cY->ae->Prop:=
 wants (λr s2=>r=.none/\∃h2 k2,s2={ s with heap:=h2,toks:=k2 }/\PS h2/\∀b o,b<s.heap.objs.size->s.heap.get? b=some o->h2.get? b=some o) E
theorem A1{items:Array aa}{led:Bool}{SS:Nat->Heap->Prop}(K:Oi prog w s.heap ax items ks)(hlt:ax<s.heap.objs.size)
  (W:Walks prog w A.in1 (s.heap.objs.size+1) [s.heap.objs.size+1,ax] [s.heap.objs.size+1] items.size (λi v=>items[i]?=some v) SS) (st:SS 0 ((s.heap.push (su led)).push itO)) {R:cY->ae->Prop}
  (hR:∀h2 k2,h2.SetOf (oa prog w) s.heap.objs.size (inK ks) (rR ks).length->(∀b o,b<s.heap.objs.size->s.heap.get? b=some o->h2.get? b=some o)->R (.ok (.ret .none)) { s with heap:=h2,toks:=k2 }) (tk:Nat):
  bV (model prog w) A (.builtin "set.update.loop" ⟨[.ref s.heap.objs.size,.ref (s.heap.objs.size+1)],[]⟩) R { s with heap:=(s.heap.push (su led)).push itO,toks:=tk }:=by
 have notin:s.heap.objs.size∉[s.heap.objs.size+1,ax]:=by
  intro z;rcases aW.mp z with z|z
  ·exact ak z (aR (dU _))
  ·exact ak (bg.mp z) (iJ hlt)
 have e0:((s.heap.push (su led)).push itO).get? s.heap.objs.size=some (su led):=aJ _ (bx _ rfl);refine FL W.toS s.heap.objs.size notin ks K.len (λi v hi hv=>K.key i v hi hv) K.bnd (items.size - 0) 0 _ (by omega) (b8 _) st ?_ λs2 mv S2=>?_
 ·exact⟨_,#[],0,_,e0,⟨rfl,rfl,rfl⟩,rfl,λe he=>by simp at he,λk=>by simp[rR],by unfold scanBound;decide,by rfl,rfl⟩
 ·obtain⟨h2,g2,d2,k2,o2⟩:=s2;have eg:g2=s.gens:=mv.gens;have ed:d2=s.drawn:=mv.drawn;have eo:o2=s.os:=mv.os;subst eg ed eo;refine hR h2 k2 S2 λb o hb e=>mv.heap b o (λz=>?_) (aJ _ (aJ _ e));rcases aW.mp z with z|z
  ·exact ak z (aR hb)
  ·exact ak (bg.mp z) (aR (dy hb))
theorem BP(a:aa){Q₁:aa->ae->Prop}(h:Q₁ (.ref s.heap.objs.size) { s with heap:=s.heap.push (su (!w.params.followText "set-order")) }):
  bV (model prog w) A (.call (.builtin "set.__new__") ⟨[.type "set", a],[]⟩) (wants Q₁ E) s:=by
 refine kl ?_;show af _ A.in1 (do checkBuiltinCall "set.__new__" ⟨[.type "set", a],[]⟩;again (.builtin "set.__new__" ⟨[.type "set", a],[]⟩)) _ _ s;refine au (wpAny_of_eq (F.newCall_set_1 a) (aD ⟨gp km _,eG F.entry_set_new ?_⟩));rw[fz km _];unfold Builtin.«set.__new__» lF;have hsub:=sub_set_self;obtain⟨hp,g,d,tk,os⟩:=s;dsimp only
 wp_walk
 refine wpAny_askSetting (aD ?_);dsimp only;simp only[newObj];refine au (wpAny_alloc (aD ?_));exact aD h
theorem vy{T:String}{PS:Heap->Prop}(ho:s.heap.get? ax=some o)(hc:o.cls=.type T)
  (u1:isSubtype (.type T) (.type "set")=pure false) (u2:isSubtype (.type T) (.type "frozenset")=pure false) (u3:(Value.type T==Value.type "dict")=false)
  (itr:∀(A:ay) (Q:aa->ae->Prop) (E:aa->ae->Prop) (s1:ae),s1.heap.get? ax=some o->Q (.ref s1.heap.objs.size) { s1 with heap:=s1.heap.push itO }->af (model prog w) A (pyIter (.ref ax)) Q E s1)
  (fil:∀tk (R:cY->ae->Prop),(∀h2 k2,PS h2->(∀b o,b<s.heap.objs.size->s.heap.get? b=some o->h2.get? b=some o)->R (.ok (.ret .none)) { s with heap:=h2,toks:=k2 })->
   bV (model prog w) A.in1.in1 (.builtin "set.update.loop" ⟨[.ref s.heap.objs.size,.ref (s.heap.objs.size+1)],[]⟩) R { s with heap:=(s.heap.push (su (!w.params.followText "set-order"))).push itO,toks:=tk })
  (h:∀h2 k2,PS h2->(∀b o,b<s.heap.objs.size->s.heap.get? b=some o->h2.get? b=some o)->Q (.ref s.heap.objs.size) { s with heap:=h2,toks:=k2 }):
  af (model prog w) A (call (.type "set") [.ref ax]) Q E s:=by
 have hlt:ax<s.heap.objs.size:=aF ho;obtain⟨c,tl,hmro⟩:=dH.mro;have made:=dH.made;have subs:=dH.sub;refine gB (kl ?_);show af _ _ (callAny (.type "set") _) _ _ _;refine aD ⟨Code.quiet_builtin _ (by decide +kernel),eG F.entry_type_call ?_⟩;rw[Around.under_plain (weight_type_call_type "set" [.ref ax] []) rfl];have n1:=dH.notType;have n2:=dH.canCreate;have n3:=F.typeCall_set_1 (.ref ax)
 repeat (any_goals (first|assumption|wp_step))
 let led:Bool:=!w.params.followText "set-order";refine ee (BP (.ref ax) (E:=E) (Q₁:=λv s1=>v=.ref s.heap.objs.size/\s1={ s with heap:=s.heap.push (su led) }) ⟨rfl,rfl⟩) λr s1 hr=>?_;cases r with
 |error e=>exact hr
 |ok fl=>
  cases fl with
  |ret v=>
   obtain⟨rfl,rfl⟩:=hr;have e0:(s.heap.push (su led)).get? s.heap.objs.size=some (su led):=bx _ rfl;have ty0:Shared.TypeIs { s with heap:=s.heap.push (su led) } (.ref s.heap.objs.size) "set" := ⟨_,e0,rfl⟩;have l1:=dH.init.lookup;have l2:=dH.init.bind (.ref s.heap.objs.size)
   repeat (any_goals (first|assumption|wp_step))
   refine ee (codeAny_call_builtin (R:=ID s PS E) dH.init.plain F.entry_set_init (check_set_init_1 ty0 ?_)) λr2 s2 hr2=>?_
   ·obtain⟨oc,od,oda,osl⟩:=o;cases hc;have e1:(s.heap.push (su led)).get? ax=some { cls:=.type T,dict:=od,data:=oda,slots:=osl }:=aJ _ ho;unfold Builtin.«set.__init__» noKeywords lD;generalize gP:pyIter=PP
    wp_walk
    subst gP;refine itr _ _ _ _ e1 ?_;refine au (wpAny_runValue ?_);have ez:(s.heap.push (su led)).objs.size=s.heap.objs.size+1:=eK _ _;show bV _ _ (.builtin "set.update.loop" ⟨[.ref s.heap.objs.size,.ref (s.heap.push (su led)).objs.size],[]⟩) _ _;rw[ez];refine fil _ _ λh2 k2 S2 kk=>?_;show af _ _ _ _ _ _;refine aD ?_;show af _ _ (ret Value.none) _ _ _;exact aD ⟨rfl,h2,k2,rfl,S2,kk⟩
   ·cases r2 with
    |error e=>exact hr2
    |ok fl2=>
     cases fl2 with
     |ret r=>
      obtain⟨rfl,h2,k2,rfl,S2,kk⟩:=hr2
      repeat (any_goals (first|assumption|wp_step))
      exact h _ _ S2 kk
     |_=>exact hr2.elim
  |_=>exact hr.elim
end
variable{S:aj->Hp->Addr->Nat->Prop}
section
variable{X:Cx}{G:Bg}{H:Hp}{pins:List (Addr×Obj)}{σ:St}{s:ae}
theorem FN{P:aq}{w:ao}{k:Key}{v:aa}(h:(oa P w).is k v=true):v.scannable=true:=by rcases oU h with ⟨i,t,_,rfl⟩|⟨x,t,_,rfl⟩<;>rfl
theorem FP{its:List aa}(r:Vals (ks.map kV) its)(hb:ks.length+1<scanBound):Oi X.prog X.w s.heap a its.toArray ks:=by
 have hl:ks.length=its.length:=by have:=r.length;rw[ai]at this;exact this
 refine⟨by rw[aQ];exact hl,λi v hi hv=>?_,by rw[aQ];omega⟩;have e:(ks.map kV)[i]?=some (kV ks[i]):=by rw[bb,aS hi];rfl
 obtain⟨u,hu,ru⟩:=r.get e;have eu:v=u:=by rw[gY]at hv;rw[hv]at hu;exact bT hu
 subst eu;have:=yX (P:=X.prog) (w:=X.w) ru;exact⟨this,FN this⟩
theorem Oj(I:Inv X pins σ H s)(h:SqT X.K H a (ks.map kV)):TK X.prog X.w s.heap ks a:=by
 obtain⟨its,r,p,_⟩:=I.tuple h;obtain⟨o,ho,hc,n,hd⟩:=p;refine⟨o,_,n,ho,hc,hd,?_⟩;have gen:∀(ks:List Key) (its:List aa),Vals (ks.map kV) its->PySem.ItemsAre (oa X.prog X.w) ks its:=λks=>by
  induction ks with
  |nil=>intro its r;cases r;exact .nil
  |cons k ks ih=>intro its r;cases r with|cons h1 h2=>exact .cons (yX h1) (ih _ h2)
 exact gen ks its r
def Lu(K:aj)(H:Hp)(a:Addr)(n:Nat):Prop:=∃ks,(SqL K H a (ks.map kV)\/SqT K H a (ks.map kV))/\ks.length+1<scanBound/\n=(rR ks).length
def Lv(X:Cx)(S:aj->Hp->Addr->Nat->Prop):Prop:=∀{pins:List (Addr×Obj)} {σ:St} {H:Hp} {s:ae} {A:ay} {E:aa->ae->Prop} {Q:aa->ae->Prop} {a:Addr} {n:Nat},Inv X pins σ H s->A.handled=none->A.units+8<cLine->S X.K H a n->
 (∀h2 k2,Oh h2 s.heap.objs.size n->(∀b o,b<s.heap.objs.size->s.heap.get? b=some o->h2.get? b=some o)->Q (.ref s.heap.objs.size) { s with heap:=h2,toks:=k2 })->af (model X.prog X.w) A (call (.type "set") [.ref a]) Q E s
theorem Ol:Lv X (Lu):=by
 intro pins σ H s A E Q a n I hh hu hq h;have h3:A.in1.in1.in1.handled=none:=by simp[hh]
 have gt:∀{h2:Heap} {ks:List Key},h2.SetOf (oa X.prog X.w) s.heap.objs.size (inK ks) (rR ks).length->Oh h2 s.heap.objs.size (rR ks).length:=λS=>by obtain⟨o,es,ep,t,ho,hex,hd,_,_,hz,hf,hn⟩:=S;exact⟨o,es,ep,t,ho,hex,hd,hz,hf,hn⟩
 have it:∀{o:Obj} {led:Bool},o.isFreed=false->((s.heap.push (su led)).push o).get? (s.heap.objs.size+1)=some o:=λ{o led} z=>by rw[show s.heap.objs.size+1=(s.heap.push (su led)).objs.size from(eK _ _).symm];exact bx _ z
 obtain⟨ks,hq|hq,hb,rfl⟩:=hq
 ·obtain⟨its,r,p,_⟩:=I.list hq;obtain⟨o,ho,hc,n,hd⟩:=p.isList;have hne:a≠s.heap.objs.size+1:=aR (dy (aF ho));refine vy ho hc ky jC (by decide) (itO:={ cls:=.type "list_iterator", data:=.fields #[.ref a,.int 0 0] })
   (λA Q E s1 e k=>fE ⟨o,e,hc,n,hd⟩ k) (λtk R hR=>A1 (FP r hb) (aF ho) (gG h3 _ a hne its.toArray) ⟨⟨_,it rfl,rfl,rfl⟩,⟨o,aJ _ (aJ _ ho),hc,n,hd⟩⟩ (λh2 k2 S=>hR h2 k2 (gt S)) tk) h
 ·obtain⟨its,r,p,_⟩:=I.tuple hq;obtain⟨o,ho,hc,n,hd⟩:=p;have hne:a≠s.heap.objs.size+1:=aR (dy (aF ho));refine vy ho hc sub_tuple_set sub_tuple_frozenset (by decide) (itO:={ cls:=.type "tuple_iterator", data:=.fields #[.ref a,.int 0 0] })
   (λA Q E s1 e k=>ia ⟨o,e,hc,n,hd⟩ k) (λtk R hR=>A1 (FP r hb) (aF ho) (lr h3 _ a hne its.toArray) ⟨⟨_,it rfl,rfl,rfl⟩,⟨o,aJ _ (aJ _ ho),hc,n,hd⟩⟩ (λh2 k2 S=>hR h2 k2 (gt S)) tk) h
def CJ(S:aj->Hp->Addr->Nat->Prop)(K:aj)(te:TE):TE:=λσ H Q=>te σ H λx H1=>∃a n,x=.ref a/\S K H1 a n/\Q (.int n) H1
theorem Ec{p1 p2 p3 p4:Pos}(hV:Lv X S)(hu:X.A.units+64<cLine)(hc:X.calm=true)(g1:Gl X "len")(m1:X.mg "len" = none)(g2:Gl X "set")(m2:X.mg "set" = none)(he:PE X e te)
  (z1:ar [Expr.Call (.Name "set" p2) [e] [] p3] X.env=[(false,eval (.Call (.Name "set" p2) [e] [] p3) X.env)]:=by rfl) (z2:ar [e] X.env=[(false,eval e X.env)]:=by rfl):PE X (.Call (.Name "len" p1) [.Call (.Name "set" p2) [e] [] p3] [] p4) (CJ S X.K te):=by
 intro pins s σ H Q I h;refine dv (uU I g1 m1 kz ?_ (by decide) (by decide));refine callWith_builtin1 ?_ z1 rfl;rw[z1];show af _ _ (spliced [(false,eval (.Call (.Name "set" p2) [e] [] p3) X.env)]) _ _ s;refine f9 ?_;refine dv (uU I g2 m2 Pv.boot_set ?_ (by decide) (by decide));refine callWith_type1 (thn (qY he tV z2 p3 pins s σ H (λvs H1=>match vs with
  |[x]=>∃a n,x=.ref a/\S X.K H1 a n/\Q (.int n) H1
  |_=>False) I h) λus s1 ⟨vs,H1,I1,r1,q1⟩=>?_) z2 rfl
 match vs,r1,q1 with
 |[x],r1,q1=>
 obtain⟨a,n,e1,hq,q⟩:=q1;subst e1;obtain⟨u,rfl,ru⟩:=vals1 r1;cases ru;refine hV I1 (I1.ok.hd hc) (by omega) hq λh2 k2 S2 kk=>?_;refine ik ?_;obtain⟨o,es,ep,t,ho,hex,hd,hz,hf,hn⟩:=S2;have I2:Inv X pins σ H1 { s1 with heap:=h2,toks:=k2 }:=I1.kept λb o e=>kk b o (aF e) e;refine call_len_set ho hex hd hf (by unfold scanBound at hz;omega) ⟨.int n,H1,I2.tok _,⟨_,by rw[hn]⟩,q⟩
def uI:List D->Option (List Key)
 |[]=>some []
 |d::ds=>match xl d,uI ds with
  |some k,some ks=>some (k::ks)
  |_,_=>none
theorem zh:∀{ds:List D} {xs:List V} {ks:List Key},nM G H ds xs->uI ds=some ks->xs=ks.map kV
 |[],xs,ks,r,e=>by cases e;unfold nM at r;exact r
 |d::ds,xs,ks,r,e=>by
  unfold uI at e;cases e1:xl d with
  |none=>rw[e1]at e;cases e
  |some k=>
   cases e2:uI ds with
   |none=>rw[e1,e2]at e;cases e
   |some ks'=>rw[e1,e2]at e;cases e;unfold nM at r;obtain⟨v,r',rfl,h1,h2⟩:=r;rw[xq h1 e1,zh h2 e2];rfl
def qg(ds:List D):Option D:=match uI ds with
 |some ks=>if ks.length<=1000 then some (.int (rR ks).length)else none
 |none=>none
def vz(g:List D->Option D):D->Option D
 |.lst ds=>match qg ds with
  |some r=>some r
  |none=>g ds
 |.tup ds=>qg ds
 |.fzl ds=>qg ds
 |_=>none
theorem CK{g:List D->Option D}{ds:List D}{r:D}(h:qg ds=some r):vz g (.lst ds)=some r:=by show (match qg ds with|some r=>some r|none=>g ds)=some r;rw[h]
theorem BQ{g:List D->Option D}(hK:X.K=G.K)(hO:∀{H a n},Lu X.K H a n->S X.K H a n)
  (hg:∀{ds d H1 H1' a xs},g ds=some d->SqL X.K H1' a xs->nM G H1 ds xs->nR H1 H1'->∃n:Nat,S X.K H1' a n/\d=.int n)
  (h:PE X e (CJ S X.K (tF G f))):PE X e (tF G (c1 (vz g) f)):=PE.weak h λσ H Q hh=>by
 obtain⟨F,ρ,H0,d,ρ',R,e,k⟩:=hh;obtain⟨x,e1,e2⟩:=xp e;have key:∀{ds:List D} {xs:List V} {a:Addr} {H1 H1':Hp},qg ds=some d->nM G H1 ds xs->nR H0 H1->nY G F σ ρ' H1 H1'->(SqL X.K H1' a xs\/SqT X.K H1' a xs)->
   ∃a' n,V.ref a=.ref a'/\S X.K H1' a' n/\Q (.int n) H1':=λ{ds xs a H1 H1'} ed rs s R' hq=>by
  unfold qg at ed;cases ek:uI ds with
  |none=>rw[ek]at ed;cases ed
  |some ks=>
   rw[ek]at ed;simp only at ed;split at ed
   ·rename_i hl;cases ed;rw[zh rs ek]at hq;exact⟨a,_,rfl,hO ⟨ks,hq,by unfold scanBound;omega,rfl⟩,k _ _ _ s R' (pK _)⟩
   ·cases ed
 refine⟨F,ρ,H0,x,ρ',R,e1,λv H1 H1' s R' r=>?_⟩;cases x with
 |lst ds=>
  unfold Rep at r;obtain⟨a,xs,rfl,h1,h2⟩:=r;have hq:SqL X.K H1' a xs:=SqL.of (R'.sub _ _ h1);replace e2:(match qg ds with|some r=>some r|none=>g ds)=some d:=e2;cases e3:qg ds with
  |some r=>rw[e3]at e2;cases e2;exact key e3 h2 s R' (.inl hq)
  |none=>rw[e3]at e2;obtain⟨n,h3,rfl⟩:=hg e2 hq h2 R'.sub;exact⟨a,n,rfl,h3,k _ _ _ s R' (pK _)⟩
 |tup ds=>unfold Rep at r;obtain⟨a,xs,rfl,h1,h2⟩:=r;rw[<-hK]at h1;exact key e2 h2 s R' (.inr (SqT.mono R'.sub h1))
 |fzl ds=>unfold Rep at r;obtain⟨a,xs,rfl,h1,h2⟩:=r;rw[<-hK]at h1;exact key e2 h2 s R' (.inl (R'.sub.seq h1))
 |_=>cases e2
end
theorem CL{P:aq}{w:ao}{k:Key}{v:aa}(h:(oa P w).is k v=true):RelV (kV k) v:=by
 rcases oU h with ⟨i,t,rfl,rfl⟩|⟨x,t,rfl,rfl⟩
 ·exact⟨t,rfl⟩
 ·exact⟨t,rfl⟩
def Itd(a:Addr)(o:Obj)(kvs:List (Key×V)):It:=
 ⟨λi H=>i<kvs.length/\H a=some (.frz o (.dK kvs)),λi H x H'=>H'=H/\∃k z,kvs[i]?=some (k,z)/\x=kV k,λi H=>kvs.length<=i/\H a=some (.frz o (.dK kvs))⟩
section
variable{X:Cx}{pins:List (Addr×Obj)}{σ:St}{H:Hp}{s:ae}
theorem wI{es:Array DictEntry}(I:Inv X pins σ H s)(e:H a=some (.frz o (.dK kvs)))(hd:o.data=.dict es ep):
  (a==cE)=false/\s.heap.get? a=some o/\∃vs,KV kvs vs/\s.heap.DictAt (oa X.prog X.w) a vs ep:=by
 obtain⟨q0,_,y,vs,r,ob,es',ep',q1,q2,q3,q4⟩:=(show o8 X.prog X.w H s.heap a (.frz o (.dK kvs)) from I.hok a _ e);rw[q0]at q1;cases q1;rw[hd]at q3;cases q3;exact⟨y,q0,vs,r,o,es,q0,q2,hd,q4⟩
theorem Lx{vs:List (Key×aa)}(r:KV kvs vs){i:Nat}{k:Key}{x:aa}(e:vs[i]?=some (k,x)):∃z,kvs[i]?=some (k,z):=by
 induction r generalizing i with
 |nil=>cases e
 |@cons p q l l' h _ ih=>
  cases i with
  |zero=>obtain⟨pk,pv⟩:=p;cases e;exact⟨pv,by rw[show pk=k from h.1];rfl⟩
  |succ i=>exact ih e
end
theorem Ed{P:aq}{w:ao}{K:aj}(a it:Addr)(o:Obj)(kvs:List (Key×V)):Turn P w K tg (Itd a o kvs) [it] it (λi h=>∃es ep,o.data=.dict es ep/\h.IsKeyIter it a i kvs.length ep) where
 mem:=by simp
 obj:=λi h st b hb=>by
  have e:b=it:=by simpa using hb
  subst e;obtain⟨es,ep,hd,ob,e,c,d⟩:=st;exact⟨ob,e,λv z=>by rw[d]at z;cases z⟩
 keep:=λi h h' st k=>by obtain⟨es,ep,hd,x⟩:=st;exact⟨es,ep,hd,x.at λo e=>k it (by simp) o e⟩
 item:=by
  intro X hP hw hK hc i pins s σ H E I hf st hg;subst hP hw hK;obtain⟨hi,he⟩:=hg;obtain⟨es,ep,hd,ki⟩:=st;obtain⟨f0,f1,f2,f3,f4,f5⟩:=hf it (by simp);obtain⟨_,_,vs,r,da⟩:=wI I he hd;have hl:kvs.length=vs.length:=r.length;have hne:a≠it:=λz=>by subst z;rw[he]at f0;cases f0
  have W:=Walks.dictKeys (knd:=oa X.prog X.w) (A:=X.A) (I.ok.hd hc) it a hne vs ep;refine W.item i s _ _ (by omega) ⟨by rw[<-hl];exact ki,da⟩ λv h' tk hv st' kk=>?_;obtain⟨k,x,hx,hk⟩:=hv;obtain⟨z,hz⟩:=Lx r hx;have I1:Inv X pins σ H { s with heap:=h',toks:=tk }:=I.turned (λb o hb e=>kk b o (by simpa using hb) e) f0 f1 f3 f4 f5;obtain⟨ki',_⟩:=st';rw[<-hl]at ki';obtain⟨ob,e,c,d⟩:=id ki';exact⟨v,rfl,Ca (s:={ s with heap:=h',toks:=tk }) e c d (by decide) ⟨kV k,H,I1,CL hk,⟨rfl,k,z,hz,rfl⟩,⟨es,ep,hd,ki'⟩,λb hb=>(hf b hb).1⟩⟩
 done:=by intro X hP hw hK hc i pins s σ H E I hf st hg;subst hP hw hK;obtain⟨hi,he⟩:=hg;obtain⟨es,ep,hd,ki⟩:=st;obtain⟨f0,f1,f2,f3,f4,f5⟩:=hf it (by simp);obtain⟨_,_,vs,r,da⟩:=wI I he hd;have hl:kvs.length=vs.length:=r.length;exact wpAny_pyNext_dict_end (I.ok.hd hc) (by rw[<-hl];exact ki) da (f7 (by rw[<-hl];exact hi)) λh' eb=>⟨rfl,I.turned (t':=s.toks) (λb o hb e=>eb b o hb e) f0 f1 f3 f4 f5⟩
 self:=λ_ _ _ _ _ st h=>by obtain⟨es,ep,hd,ki⟩:=st;exact wpAny_pyIter_keyiter ki h
section
variable{X:Cx}{G:Bg}{tg:Expr}
def Om(tl:TE):TI:=λσ H R=>tl σ H λx H1=>∃a o kvs,x=.ref a/\H1 a=some (.frz o (.dK kvs))/\R (Itd a o kvs) H1
theorem IE{l:Expr}{tl:TE}(hl:PE X l tl):PI X tg l (Om tl):=by
 intro pins s σ H R I h;refine thn (hl pins s σ H _ I h) λv s1 zz=>?_;obtain⟨x,H1,I1,r1,q1⟩:=zz;obtain⟨a,o,kvs,e,he,q⟩:=q1;subst e;cases r1;obtain⟨q0,_,y,vs,r,ob,es,ep,e1,e2,e3,e4⟩:=(show o8 X.prog X.w H1 s1.heap a (.frz o (.dK kvs)) from I1.hok a _ he);rw[q0]at e1;cases e1;have hl:kvs.length=vs.length:=r.length;refine wpAny_pyIter_dict (knd:=oa X.prog X.w) (kvs:=vs) (ep:=ep) y ⟨o,es,q0,e2,e3,e4⟩ ?_;refine⟨s1.heap.objs.size,[s1.heap.objs.size],_,_,H1,rfl,I1.kept (t':=s1.toks) λb o e=>aJ _ e,Ed a _ o kvs,⟨es,ep,e3,⟨_,bx _ rfl,rfl,by rw[hl];rfl⟩⟩,λb hb=>?_,q⟩;have e:b=s1.heap.objs.size:=by simpa using hb
 subst e;exact I1.fpOk (aC _) (I1.hok.fresh (aC _))
def Ly:Key->D
 |.inl i=>.int i
 |.inr x=>.str x
theorem IF(k:Key){H:Hp}:Rep G H (Ly k) (kV k):=by
 cases k with
 |inl i=>exact pK i
 |inr x=>exact vn x
def iD(f:FE):FA:=λρ=>match f ρ with
 |some (.dic ks ds,ρ1)=>if ks.length=ds.length then some (ks.map Ly,ρ1)else none
 |_=>none
theorem FQ{tg:Expr}(h:PI X tg e (Om (tF G f))):PI X tg e (tFI G (iD f)):=PI.weak h λσ H R hh=>by
 obtain⟨F,ρ,H0,ds,ρ',R,e,k⟩:=hh;unfold iD at e;split at e
 ·rename_i ks ds' ρ1 e1;split at e
  ·rename_i hlen;cases e;refine⟨F,ρ,H0,_,_,R,e1,λv H1 H1' s R' r=>?_⟩;unfold Rep at r;obtain⟨a,o,xs,rfl,r1,r2,r3⟩:=r;have hz:(ks.zip xs).length=ks.length:=by rw[fL,<- r2,fP]
   refine⟨a,o,_,rfl,R'.sub _ _ r1,k _ _ _ s R' λi H2 H2' t t'=>⟨λd ed=>?_,λhl=>?_⟩⟩
   ·rw[bb]at ed;cases ek:ks[i]? with
    |none=>rw[ek]at ed;cases ed
    |some j=>
     rw[ek]at ed;cases ed;have hi:i<ks.length:=(bo.mp ek).1;refine⟨⟨by rw[hz];exact hi,t' _ _ (t _ _ r1)⟩,λz H3 y=>?_⟩;obtain⟨e3,k',z',hk',rfl⟩:=y;subst e3;have:k'=j:=by rw[List.getElem?_zip_eq_some]at hk';have:=hk'.1;rw[ek]at this;exact(bT this).symm
     subst this;exact⟨H2,nR.refl _,t',nR.refl _,λb o e=>.inl e,IF _⟩
   ·refine⟨by rw[hz,hl,ai];exact aC _,t' _ _ (t _ _ r1)⟩
  ·cases e
 ·cases e
end
mutual
def noC(N c:Nat):D->Bool
 |.non=>true
 |.bl _=>true
 |.int _=>true
 |.str _=>true
 |.tup ds=>A2 N c ds
 |.lst ds=>A2 N c ds
 |.fzl ds=>A2 N c ds
 |.obj k _ ds=>decide (k<N)&&decide (k≠c)&&A2 N c ds
 |.dic _ ds=>A2 N c ds
def A2(N c:Nat):List D->Bool
 |[]=>true
 |d::ds=>noC N c d&&A2 N c ds
end
def without(H:Hp)(a:Addr):Hp:=λb=>if b=a then none else H b
theorem ya{H:Hp}{b:Addr}(h:b≠a):without H a b=H b:=by unfold without;rw[ah h]
theorem vA{H:Hp}{b:Addr}{o:HO}(h:without H a b=some o):b≠a/\H b=some o:=by
 unfold without at h;by_cases hb:b=a
 ·rw[ag hb]at h;cases h
 ·rw[ah hb]at h;exact⟨hb,h⟩
theorem qw{H:Hp}{b:Addr}{u v:HO}(ha:H a=some u)(hb:H b=some v)(d:u≠v):without H a b=some v:=by rw[ya (λz=>by subst z;rw[ha]at hb;exact d (bT hb))];exact hb
variable{p:Addr}{xs:List V}
section
variable{G:Bg}{H:Hp}{a dx:Addr}{fs:List (Str×V)}{N c:Nat}
theorem A3(ha:H a=some (.ins (G.ca c) dx fs))(h:SqT G.K H p xs):SqT G.K (without H a) p xs:=by
 rcases h with (h|⟨o,h⟩)|h
 ·exact .inl (.inl (qw ha h (λz=>nomatch z)))
 ·exact .inl (.inr ⟨o,qw ha h (λz=>nomatch z)⟩)
 ·exact .inr h
theorem A4(ha:H a=some (.ins (G.ca c) dx fs))(h:SqL G.K H p xs):SqL G.K (without H a) p xs:=by
 rcases h with (h|⟨o,h⟩)|h
 ·exact .inl (.inl (qw ha h (λz=>nomatch z)))
 ·exact .inl (.inr ⟨o,qw ha h (λz=>nomatch z)⟩)
 ·exact .inr h
mutual
theorem wJ(inj:∀j k,j<N->k<N->G.ca j=G.ca k->j=k)(hc:c<N)(ha:H a=some (.ins (G.ca c) dx fs)):∀(d:D) (v:V),noC N c d=true->Rep G H d v->Rep G (without H a) d v
 |.non,v,_,h=>by unfold Rep at h ⊢;exact h
 |.bl _,v,_,h=>by unfold Rep at h ⊢;exact h
 |.int _,v,_,h=>by unfold Rep at h ⊢;exact h
 |.str _,v,_,h=>by unfold Rep at h ⊢;exact h
 |.tup ds,v,n,h=>by unfold noC at n;unfold Rep at h ⊢;obtain⟨p,xs,e,h1,h2⟩:=h;exact⟨p,xs,e,A3 ha h1,qh inj hc ha ds xs n h2⟩
 |.lst ds,v,n,h=>by unfold noC at n;unfold Rep at h ⊢;obtain⟨p,xs,e,h1,h2⟩:=h;exact⟨p,xs,e,qw ha h1 (λz=>nomatch z),qh inj hc ha ds xs n h2⟩
 |.fzl ds,v,n,h=>by unfold noC at n;unfold Rep at h ⊢;obtain⟨p,xs,e,h1,h2⟩:=h;exact⟨p,xs,e,A4 ha h1,qh inj hc ha ds xs n h2⟩
 |.obj k ns ds,v,n,h=>by unfold noC at n;simp only[aA,bF]at n;unfold Rep at h ⊢;obtain⟨p,dx',xs,e,h1,h2,h3⟩:=h;refine⟨p,dx',xs,e,qw ha h1 (λz=>?_),h2,qh inj hc ha ds xs n.2 h3⟩;injection z with z1;exact n.1.2 (inj k c n.1.1 hc z1.symm)
 |.dic ks ds,v,n,h=>by unfold noC at n;unfold Rep at h ⊢;obtain⟨p,o,xs,e,h1,h2,h3⟩:=h;exact⟨p,o,xs,e,qw ha h1 (λz=>nomatch z),h2,qh inj hc ha ds xs n h3⟩
theorem qh(inj:∀j k,j<N->k<N->G.ca j=G.ca k->j=k)(hc:c<N)(ha:H a=some (.ins (G.ca c) dx fs)):∀(ds:List D) (xs:List V),A2 N c ds=true->nM G H ds xs->nM G (without H a) ds xs
 |[],xs,_,h=>by unfold nM at h ⊢;exact h
 |d::ds,xs,n,h=>by unfold A2 at n;simp only[aA]at n;unfold nM at h ⊢;obtain⟨v,r,e,h1,h2⟩:=h;exact⟨v,r,e,wJ inj hc ha d v n.1 h1,qh inj hc ha ds r n.2 h2⟩
end
end
def tp:Sl->Sl
 |.im d=>.im d
 |_=>.un
def uJ(N:Nat)(f:FE):FE:=λρ=>match ρ with
 |.ob c ns ds::r=>match f (.im (.obj c ns ds)::r.map tp)with
  |some (d,_)=>if (decide (c<N)&&noC N c d)=true then some (d,ρ)else none
  |none=>none
 |_=>none
section
variable{X:Cx}{G:Bg}
theorem BR{s:Sl}:(tp s).own=false:=by cases s<;>rfl
theorem IG{N:Nat}(inj:∀j k,j<N->k<N->G.ca j=G.ca k->j=k)(h:PE X e (tF G f)):PE X e (tF G (uJ N f)):=PE.weak h λσ H Q hh=>by
 obtain⟨F,ρ,H0,d,ρ',R,e,k⟩:=hh;unfold uJ at e;split at e
 ·rename_i c ns ds r;rcases n4 (f:=f) (ρ:=.im (.obj c ns ds)::r.map tp)with e1|⟨x,ρ1,e1⟩<;>simp only[e1]at e
  ·cases e
  split at e
  ·rename_i hn;cases e;simp only[aA,bF]at hn;obtain⟨a,dx,xs,h1,h2,h3,h4,h5,h6⟩:=R.sl 0 _ rfl;have RL:nY G ⟨upd H0 a (.ins (G.ca c) dx (ns.zip xs)),H,[]⟩ σ (.im (.obj c ns ds)::r.map tp) (upd H0 a (.ins (G.ca c) dx (ns.zip xs))) H:={
    sub:=λb o q=>by
     by_cases hb:b=a
     ·subst hb;rw[nW]at q;cases q;exact h2
     ·rw[nT hb]at q;exact R.sub _ _ q
    g0:=nR.refl _
    keep:=λb o q _=>q
    fr:=λb o q=>.inl q
    am:=λb q=>by cases q
    len:=by have:=R.len;simpa using this
    sl:=λi s q=>by
     cases i with
     |zero=>cases q;exact⟨.ref a,h1,by unfold Rep;exact⟨a,dx,xs,rfl,nW,h5,nM.mono (og h3 _) _ _ h6⟩⟩
     |succ i=>
      have q':(r.map tp)[i]?=some s:=q;rw[bb]at q';cases q1:r[i]? with
      |none=>rw[q1]at q';cases q'
      |some t=>
       rw[q1]at q';cases q';have ok:=R.sl (i+1) t q1;cases t with
       |im d=>obtain⟨v,g1,g2⟩:=ok;exact⟨v,g1,Rep.mono (og h3 _) _ _ g2⟩
       |_=>trivial
    ap:=λi j s t b _ qi _ so=>by
     cases i with
     |zero=>cases qi;cases so
     |succ i=>
      have q':(r.map tp)[i]?=some s:=qi;rw[bb]at q';cases q1:r[i]? with
      |none=>rw[q1]at q';cases q'
      |some t=>rw[q1]at q';cases q';rw[BR]at so;cases so }
   refine⟨_,_,_,d,ρ1,RL,e1,λv H1 H1' s R' rd=>?_⟩;have ha:H1 a=some (.ins (G.ca c) dx (ns.zip xs)):=s _ _ nW;have s0:nR H0 (without H1 a):=λb o q=>by
    have hb:b≠a:=λz=>by subst z;rw[h3]at q;cases q
    rw[ya hb];exact s b o (by rw[nT hb];exact q)
   refine k v (without H1 a) H1' s0 ?_ (wJ inj hn.1 ha d v hn.2 rd);refine R.grow (λb o q=>R'.keep b o q (by simp)) s0 (λb o q=>R'.sub _ _ (vA q).2) λb o q=>?_;obtain⟨hb,q⟩:=vA q;rcases R'.fr b o q with z|z
   ·have z':upd H0 a (.ins (G.ca c) dx (ns.zip xs)) b=some o:=z;rw[nT hb]at z';exact .inl z'
   ·exact .inr z
  ·cases e
 ·cases e
end
section
variable{X:Cx}{pins:List (Addr×Obj)}{σ:St}{H:Hp}{s:ae}{a:Addr}{A:ay}{E:aa->ae->Prop}
theorem LA{k:Key}{z:V}{u r:aa}{Q:aa->ae->Prop}(I:Inv X pins σ H s)(e:H a=some (.dK kvs))(ry:RelV (kV k) u)(rz:RelV z r)(hl:kvs.length<az)
  (h1:∀v w s',q9 kvs k=some v->Inv X pins σ H s'->RelV v w->Q w s') (h2:∀s',q9 kvs k=none->Inv X pins σ (upd H a (.dK (putK kvs k z))) s'->Q r s'):
  af (model X.prog X.w) A (call (.builtin "dict.setdefault") [.ref a,u,r]) Q E s:=by
 obtain⟨y,hd,vs,rel,dd⟩:=Jv I.hok e;have hz:vs.length<=az:=by rw[<-rel.length];exact y
 have hp:(putK kvs k z).length<=az:=by have:=tY kvs k z;omega
 have rv:=rel.val k;refine call_meetsIn jr dd.typeIs F.entry_dict_setdefault (F.args_dict_setdefault_3 _ _ _) (kt_meets_setdefault (oa X.prog X.w) a (yX ry) hd r) ⟨vs,dd,hz,λw hw=>?_,λhn h' dd' hs=>?_⟩
 ·rw[hw]at rv;cases ev:q9 kvs k with
  |none=>rw[ev]at rv;exact rv.elim
  |some v=>rw[ev]at rv;exact h1 v w _ ev (I.tok _) rv
 ·rw[hn]at rv;cases ev:q9 kvs k with
  |some v=>rw[ev]at rv;exact rv.elim
  |none=>have he:∃q,h'.get? a=some q:=let ⟨q,_,_,hq,_⟩:=dd';⟨q,hq⟩;exact h2 _ ev (zS I (by rw[e];exact True.intro) hs he (EN hp hd (rel.put k rz) dd'))
def FR(td ty tx:TE):TE:=λσ H Q=>td σ H λx H1=>∃a,x=.ref a/\IsD H1 a/\ty σ H1 λy H2=>tx σ H2 λz H3=>∃kvs k,H3 a=some (.dK kvs)/\y=kV k/\kvs.length<az/\
 (∀v,q9 kvs k=some v->Q v H3)/\(q9 kvs k=none->Q z (upd H3 a (.dK (putK kvs k z))))
theorem FU{o f:Expr}{apos cpos:Pos}{td ty tx:TE}(ho:PE X o td)(he:PE X e ty)(hf:PE X f tx)(m:M2 X o "setdefault" apos e f cpos):PE X (.Call (.Attribute o "setdefault" apos) [e,f] [] cpos) (FR td ty tx):=by
 intro pins s σ H Q I h;refine wpAny_Call_method m.base m.few m.line F.plainAttrs_dict jr F.type_dict_setdefault (thn (ho pins s σ H _ I h) λu s1 zz=>?_);obtain⟨x,H1,I1,rx,a,ex,d,q1⟩:=zz;subst ex;obtain rfl:u=Value.ref a:=rx;obtain⟨t1,t2,_⟩:=KF I1 d;refine⟨t1,t2,?_⟩;rw[m.trees];refine jn rfl (hG (f9 (thn (he pins s1 σ H1 _ I1 q1) λiv s2 ⟨y,H2,I2,ry,q2⟩=>
  f9 (thn (hf pins s2 σ H2 _ I2 q2) λfv s3 ⟨z,H3,I3,rz,kvs,k,e3,ey,hl,g1,g2⟩=>ik ?_))))
 subst ey;exact LA I3 e3 ry rz hl (λv w s' ev I' rw'=>⟨v,H3,I',rw',g1 v ev⟩) λs' ev I'=>⟨z,_,I',rz,g2 ev⟩
end
def yQ(ks:List Key)(dss:List (List D))(k:Key)(d:D):List Key×List (List D):=
 if x8 ks k=true then (ks,fQ (λk' ds=>if k'=k then ds++[d]else ds) ks dss)else (ks++[k],dss++[[d]])
theorem A5{k:Key}:x8 ks k=true ↔ k∈ks:=by unfold x8;rw[bS];exact⟨λ⟨x,h1,h2⟩=>bG h2▸h1,λh=>⟨k,h,bc rfl⟩⟩
variable{vs:List V}
theorem FV{k:Key}{v:V}:ks.length=vs.length->q9 (ks.zip vs) k=some v->∃j:Nat,ks[j]?=some k/\vs[j]?=some v:=by
 induction ks generalizing vs with
 |nil=>intro _ h;cases h
 |cons k0 ks ih=>
  intro hl h;cases vs with
  |nil=>cases hl
  |cons v0 vs=>
   unfold q9 at h;rw[dw,dD]at h;by_cases e:k0=k
   ·subst e;simp only[decide_true]at h;cases h;exact⟨0,rfl,rfl⟩
   ·simp only[e,decide_false]at h;obtain⟨j,h1,h2⟩:=ih (by simpa using hl) h;exact⟨j+1,h1,h2⟩
theorem FW{k:Key}:ks.length=vs.length->q9 (ks.zip vs) k=none->k∉ks:=by
 induction ks generalizing vs with
 |nil=>intro _ _ h;cases h
 |cons k0 ks ih=>
  intro hl h hm;cases vs with
  |nil=>cases hl
  |cons v0 vs=>
   unfold q9 at h;rw[dw,dD]at h;by_cases e:k0=k
   ·subst e;simp only[decide_true]at h;cases h
   ·simp only[e,decide_false]at h;rcases aW.mp hm with z|z
    ·exact e z.symm
    ·exact ih (by simpa using hl) h z
structure Grp(G:Bg)(F:Fr)(H0 H:Hp)(a:Addr)(ks:List Key)(dss:List (List D))(bs:List Addr):Prop where
 at_:H a=some (.dK (ks.zip (bs.map V.ref)))
 n0:H0 a=none
 nB:F.B a=none
 len:ks.length=bs.length
 len':bs.length=dss.length
 nd:bs.Nodup
 kd:ks.Nodup
 each:∀(i:Nat) (b:Addr) (ds:List D),bs[i]?=some b->dss[i]?=some ds->∃xs,H b=some (.lst xs)/\H0 b=none/\F.B b=none/\nM G H0 ds xs
variable{j:Nat}
section
variable{G:Bg}{F:Fr}{σ:St}{ρ:List Sl}{H0 H H0' H':Hp}{a:Addr}{ks:List Key}{dss:List (List D)}{bs:List Addr}
theorem Grp.grow(g:Grp G F H0 H a ks dss bs)(hs:nR H H')(h0:nR H0 H0')(hf:∀b o,H0' b=some o->H0 b=some o\/H b=none):Grp G F H0' H' a ks dss bs where
 at_:=hs _ _ g.at_
 n0:=by
  cases q:H0' a with
  |none=>rfl
  |some o=>
   rcases hf a o q with z|z
   ·rw[g.n0]at z;cases z
   ·rw[g.at_]at z;cases z
 nB:=g.nB
 len:=g.len
 len':=g.len'
 nd:=g.nd
 kd:=g.kd
 each:=λi b ds e1 e2=>by
  obtain⟨xs,q1,q2,q3,q4⟩:=g.each i b ds e1 e2;refine⟨xs,hs _ _ q1,?_,q3,nM.mono h0 _ _ q4⟩;cases q:H0' b with
  |none=>rfl
  |some o=>
   rcases hf b o q with z|z
   ·rw[q2]at z;cases z
   ·rw[q1]at z;cases z
theorem nY.still(R:nY G F σ ρ H0 H)(no:∀s∈ρ,s.own=false):nY G ⟨H0,H,[]⟩ σ ρ H0 H where
 sub:=R.sub
 g0:=nR.refl _
 keep:=λb o e _=>e
 fr:=λb o e=>.inl e
 am:=λa h=>by cases h
 len:=R.len
 sl:=λi s e=>by
  have ok:=R.sl i s e;have n:=no s (bw e);cases s with
  |un=>trivial
  |im d=>exact ok
  |_=>cases n
 ap:=λi j s t b _ e _ so=>by rw[no s (bw e)]at so;cases so
theorem nY.touch(R:nY G F σ ρ H0 H)(no:∀s∈ρ,s.own=false)(hk:∀b o,H b=some o->(H0 b≠none\/F.B b≠none)->H' b=some o)(ha:∀b o,H b=some o->∃o',H' b=some o'):nY G F σ ρ H0 H' where
 sub:=λb o e=>hk b o (R.sub _ _ e) (.inl (by rw[e];exact λz=>nomatch z))
 g0:=R.g0
 keep:=λb o e n=>hk b o (R.keep b o e n) (.inr (by rw[e];exact λz=>nomatch z))
 fr:=R.fr
 am:=λb hb=>by obtain⟨o,e⟩:=R.am b hb;exact ha b o e
 len:=R.len
 sl:=λi s e=>by
  have ok:=R.sl i s e;have n:=no s (bw e);cases s with
  |un=>trivial
  |im d=>exact ok
  |_=>cases n
 ap:=λi j s t b _ e _ so=>by rw[no s (bw e)]at so;cases so
theorem LB{bs:List Addr}(h:bs.Nodup){i:Nat}{b:Addr}(e1:bs[i]?=some b)(e2:bs[j]?=some b):i=j:=by obtain⟨h1,q1⟩:=bo.mp e1;obtain⟨h2,q2⟩:=bo.mp e2;exact(ir h).mp (q1.trans q2.symm)
theorem LC{ks:List Key}(h:ks.Nodup){i:Nat}{b:Key}(e1:ks[i]?=some b)(e2:ks[j]?=some b):i=j:=by obtain⟨h1,q1⟩:=bo.mp e1;obtain⟨h2,q2⟩:=bo.mp e2;exact(ir h).mp (q1.trans q2.symm)
theorem Grp.more(g:Grp G F H0 H a ks dss bs){k:Key}{b:Addr}{v:V}(ek:ks[j]?=some k)(eb:bs[j]?=some b)(hx:H b=some (.lst xs))(rd:Rep G H0 d v):
  Grp G F H0 (upd H b (.lst (xs++[v]))) a (yQ ks dss k d).1 (yQ ks dss k d).2 bs:=by
 have hm:x8 ks k=true:=A5.mpr (bw ek);unfold yQ;rw[ag hm];have ne:a≠b:=λz=>by subst z;rw[g.at_]at hx;cases hx
 refine⟨by rw[nT ne];exact g.at_,g.n0,g.nB,g.len,?_,g.nd,g.kd,λi c ds e1 e2=>?_⟩
 ·rw[jG,<- g.len',<- g.len,fP,g.len]
 ·rw[List.getElem?_zipWith]at e2;cases q1:ks[i]? with
  |none=>rw[q1]at e2;cases e2
  |some k'=>
   cases q2:dss[i]? with
   |none=>rw[q1,q2]at e2;cases e2
   |some ds'=>
    rw[q1,q2]at e2;cases e2;obtain⟨ys,w1,w2,w3,w4⟩:=g.each i c ds' e1 q2;by_cases hk:k'=k
    ·subst hk;have ij:=LC g.kd q1 ek;subst ij;rw[e1]at eb;cases eb;rw[w1]at hx;cases hx;rw[ag rfl];exact⟨_,nW,w2,w3,pH w4 (oB rd ot)⟩
    ·rw[ah hk];have nc:c≠b:=λz=>by subst z;have ij:=LB g.nd e1 eb;subst ij;rw[q1]at ek;cases ek;exact hk rfl
     exact⟨ys,by rw[nT nc];exact w1,w2,w3,w4⟩
theorem Grp.fresh(g:Grp G F H0 H a ks dss bs){k:Key}{v:V}(hk:k∉ks)(hp:H p=none)(h0:H0 p=none)(hB:F.B p=none)(rd:Rep G H0 d v):
  Grp G F H0 (upd (upd (upd H p (.lst [])) a (.dK ((ks++[k]).zip ((bs++[p]).map V.ref)))) p (.lst [v])) a (yQ ks dss k d).1 (yQ ks dss k d).2 (bs++[p]):=by
 have hm:¬x8 ks k=true:=λz=>hk (A5.mp z);unfold yQ;rw[ah hm];have ne:a≠p:=λz=>by subst z;rw[g.at_]at hp;cases hp
 have np:p∉bs:=λz=>by
  obtain⟨i,hi,e⟩:=hU z;have e1:bs[i]?=some p:=by rw[aS hi,e]
  obtain⟨ds,e2⟩:∃ds,dss[i]?=some ds:=⟨dss[i]'(by rw[<-g.len'];exact hi),aS _⟩;obtain⟨ys,w1,_⟩:=g.each i p ds e1 e2;rw[hp]at w1;cases w1
 refine⟨by rw[nT ne,nW],g.n0,g.nB,by simp[g.len],by simp[g.len'],?_,?_,λi c ds e1 e2=>?_⟩
 ·rw[bO];refine⟨g.nd,by simp,λx hx y hy=>?_⟩;rw[bg]at hy;subst hy;exact λz=>np (z▸hx)
 ·rw[bO];refine⟨g.kd,by simp,λx hx y hy=>?_⟩;rw[bg]at hy;subst hy;exact λz=>hk (z▸hx)
 ·by_cases hi:i<bs.length
  ·rw[cZ hi]at e1;rw[cZ (by rw[<-g.len'];exact hi)]at e2;obtain⟨ys,w1,w2,w3,w4⟩:=g.each i c ds e1 e2;have nc:c≠p:=λz=>np (z▸bw e1);have na:c≠a:=λz=>by subst z;rw[g.at_]at w1;cases w1
   exact⟨ys,by rw[nT nc,nT na,nT nc];exact w1,w2,w3,w4⟩
  ·have hi':i=bs.length:=by have:i<(bs++[p]).length:=(bo.mp e1).1;rw[aB,bY]at this;omega
   subst hi';rw[dr (aC _),gx]at e1;rw[g.len',dr (aC _),gx]at e2;cases e1;cases e2;exact⟨[v],nW,h0,hB,oB rd ot⟩
def A6(G:Bg)(fk:FE):TS:=Es (tBM G.K "list" zR (FR (sj 1) (tF G fk) (NL zI)) (xF (sj 2) zI))
theorem FX{D0:Ends}{x:D}{k:Key}{vr:V}(R:nY G F σ ρ H0 H)(no:∀s∈ρ,s.own=false)(h1:σ[1]?=some (some (.ref a)))(h2:σ[2]?=some (some vr))(rd:Rep G H0 d vr)
  (g:Grp G F H0 H a ks dss bs) (hk:fk ρ=some (x,ρ)) (ek:xl x=some k) (l1:ks.length<1000) (l2:∀ds∈dss,ds.length<1000)
  (kont:∀Hi Hj bs',nR H0 Hi->nY G F σ ρ Hi Hj->Grp G F Hi Hj a (yQ ks dss k d).1 (yQ ks dss k d).2 bs'->D0.nx σ Hj):A6 G fk D0 σ H:=by
 refine⟨.ref a,h1,a,rfl,.inl ⟨_,.inl g.at_⟩,_,_,_,x,ρ,nY.still R no,hk,λv H1 H1' s R1 r=>?_⟩;have hs:nR H H1':=λb o e=>R1.keep b o e (by simp);have hf:∀b o,H1 b=some o->H0 b=some o\/H b=none:=R1.fr;have R2:nY G F σ ρ H1 H1':=R.grow hs s R1.sub hf;have g2:Grp G F H1 H1' a ks dss bs:=g.grow hs s hf;have rd2:=Rep.mono s _ _ rd;refine⟨b8 _,λp hp=>?_⟩;have np:a≠p:=λz=>by subst z;rw[g2.at_]at hp;cases hp
 have R3:nY G F σ ρ H1 (upd H1' p (.lst [])):=R2.newOwn hp _;have g3:Grp G F H1 (upd H1' p (.lst [])) a ks dss bs:=g2.grow (og hp _) (nR.refl _) λb o e=>.inl e;have lz:(ks.zip (bs.map V.ref)).length<az:=by rw[fL,ai,<- g.len,fP,cz];omega
 refine⟨_,k,g3.at_,xq r ek,lz,λw ev=>?_,λev=>?_⟩
 ·obtain⟨j,e1,e2⟩:=FV (by rw[ai];exact g.len) ev;rw[bb]at e2;cases eb:bs[j]? with
  |none=>rw[eb]at e2;cases e2
  |some b=>
   rw[eb]at e2;cases e2;obtain⟨ds,ed⟩:∃ds,dss[j]?=some ds:=⟨dss[j]'(by rw[<-g.len'];exact(bo.mp eb).1),aS _⟩;obtain⟨xs,w1,w2,w3,w4⟩:=g3.each j b ds eb ed;have lx:xs.length<az:=by rw[<-nL w4,cz];have:=l2 ds (bw ed);omega
   refine⟨.inl ⟨rfl,xs,SqL.of w1⟩,vr,h2,b,xs,vr,rfl,rfl,w1,lx,?_⟩;refine kont H1 _ bs s (nY.touch R3 no (λc o e z=>?_) λc o e=>?_) (g3.more e1 eb w1 rd2)
   ·have nc:c≠b:=λy=>by
     subst y;rcases z with z|z
     ·exact z w2
     ·exact z w3
    rw[nT nc];exact e
   ·by_cases y:c=b
    ·subst y;exact⟨_,nW⟩
    ·rw[nT y];exact⟨o,e⟩
 ·have nk:=FW (by rw[ai];exact g.len) ev;have h0p:H1 p=none:=R2.h0none hp;have hBp:F.B p=none:=R2.bNone hp;have ez:putK (ks.zip (bs.map V.ref)) k (.ref p)=(ks++[k]).zip ((bs++[p]).map V.ref):=by rw[EL _ ev,aY,kj (by rw[ai];exact g.len)];rfl
  rw[ez];have q0:upd (upd H1' p (.lst [])) a (.dK ((ks++[k]).zip ((bs++[p]).map V.ref))) p=some (.lst []):=by rw[nT (λz=>np z.symm),nW]
  refine⟨.inl ⟨rfl,[],SqL.of q0⟩,vr,h2,p,[],vr,rfl,rfl,q0,by rw[cz];decide,?_⟩;refine kont H1 _ (bs++[p]) s (nY.touch R3 no (λc o e z=>?_) λc o e=>?_) (g2.fresh nk hp h0p hBp rd2)
  ·have n1:c≠p:=λy=>by
    subst y;rcases z with z|z
    ·exact z h0p
    ·exact z hBp
   have n2:c≠a:=λy=>by
    subst y;rcases z with z|z
    ·exact z g2.n0
    ·exact z g2.nB
   rw[cu,nT n1,nT n2];exact e
  ·by_cases y:c=p
   ·subst y;exact⟨_,nW⟩
   ·rw[nT y];by_cases y2:c=a
    ·subst y2;exact⟨_,nW⟩
    ·rw[nT y2];exact⟨o,e⟩
end
def yb(vk:D->Option D):List D->List Key->List (List D)->Option (List Key×List (List D))
 |[],ks,dss=>some (ks,dss)
 |d::r,ks,dss=>match vk d with
  |some x=>match xl x with
   |some k=>if (decide (ks.length<1000)&&dss.all λds=>decide (ds.length<1000))=true then yb vk r (yQ ks dss k d).1 (yQ ks dss k d).2 else none
   |none=>none
  |none=>none
def BS(vk:D->Option D):FS:=λρ=>match ρ with
 |[.im (.lst L),.un,.un]=>match yb vk L [] []with
  |some (ks,dss)=>some (.rt (.dic ks (dss.map .lst)) [.im (.lst L),.un,.un])
  |none=>none
 |_=>none
section
variable{X:Cx}{G:Bg}
theorem wK{Hq:Hp}:∀(bs:List Addr) (dss:List (List D)),bs.length=dss.length->(∀(i:Nat) (b:Addr) (ds:List D),bs[i]?=some b->dss[i]?=some ds->∃xs,Hq b=some (.lst xs)/\nM G Hq ds xs)->
  nM G Hq (dss.map .lst) (bs.map V.ref)
 |[],[],_,_=>ot
 |[],_::_,h,_=>by cases h
 |_::_,[],h,_=>by cases h
 |b::bs,ds::dss,h,k=>by obtain⟨xs,h1,h2⟩:=k 0 b ds rfl rfl;exact oB (sW h1 h2) (wK bs dss (by simpa using h) λi b ds e1 e2=>k (i+1) b ds e1 e2)
theorem IH{F:Fr}{σ:St}{H0 H:Hp}{dss:List (List D)}{bs:List Addr}{L:List D}{s2:Sl}(R:nY G F σ [.im (.lst L),.un,s2] H0 H)(g:Grp G F H0 H a ks dss bs)(o:Obj):
  ∃Hq,nR H0 Hq/\nY G F σ [.im (.lst L),.un,.un] Hq (upd H a (.frz o (.dK (ks.zip (bs.map V.ref)))))/\Rep G Hq (.dic ks (dss.map .lst)) (.ref a):=by
 have mb:∀{b:Addr},b∈bs->∃xs,H b=some (.lst xs)/\H0 b=none/\F.B b=none:=λ{b} hb=>by obtain⟨i,hi,e⟩:=hU hb;obtain⟨xs,w1,w2,w3,_⟩:=g.each i b (dss[i]'(by rw[<-g.len'];exact hi)) (by rw[aS hi,e]) (aS _);exact⟨xs,w1,w2,w3⟩
 have na:a∉bs:=λz=>by obtain⟨xs,w1,_⟩:=mb z;rw[g.at_]at w1;cases w1
 have s0:nR H0 (λc=>if c=a then some (.frz o (.dK (ks.zip (bs.map V.ref))))else if c∈bs then H c else H0 c):=λc u e=>by
  have n1:c≠a:=λz=>by subst z;rw[g.n0]at e;cases e
  have n2:c∉bs:=λz=>by obtain⟨_,_,w2,_⟩:=mb z;rw[w2]at e;cases e
  show (if c=a then _ else if c∈bs then H c else H0 c)=_;rw[ah n1,ah n2];exact e
 refine⟨_,s0,?_,?_⟩
 ·exact {
   sub:=λc u e=>by
    have e':(if c=a then some (HO.frz o (.dK (ks.zip (bs.map V.ref))))else if c∈bs then H c else H0 c)=some u:=e;by_cases n1:c=a
    ·subst n1;rw[ag rfl]at e';rw[nW];exact e'
    ·rw[ah n1]at e';rw[nT n1];by_cases n2:c∈bs
     ·rw[ag n2]at e';exact e'
     ·rw[ah n2]at e';exact R.sub _ _ e'
   g0:=R.g0.trans s0
   keep:=λc u e n=>by rw[nT (λz=>by subst z;rw[g.nB]at e;cases e)];exact R.keep c u e n
   fr:=λc u e=>by
    have e':(if c=a then some (HO.frz o (.dK (ks.zip (bs.map V.ref))))else if c∈bs then H c else H0 c)=some u:=e;by_cases n1:c=a
    ·subst n1;exact .inr g.nB
    ·rw[ah n1]at e';by_cases n2:c∈bs
     ·obtain⟨_,_,_,w3⟩:=mb n2;exact .inr w3
     ·rw[ah n2]at e';exact R.fr _ _ e'
   am:=λc hc=>by
    by_cases n1:c=a
    ·subst n1;exact⟨_,nW⟩
    ·rw[nT n1];exact R.am c hc
   len:=R.len
   sl:=λi s e=>by
    match i,e with
    |0,e=>cases e;obtain⟨v,w1,w2⟩:=R.sl 0 _ rfl;exact⟨v,w1,Rep.mono s0 _ _ w2⟩
    |1,e=>cases e;trivial
    |2,e=>cases e;trivial
    |i+3,e=>cases e
   ap:=λi j s t b _ e _ so=>by
    match i,e with
    |0,e=>cases e;cases so
    |1,e=>cases e;cases so
    |2,e=>cases e;cases so
    |i+3,e=>cases e }
 ·unfold Rep;refine⟨a,o,bs.map V.ref,rfl,by show (if a=a then _ else _)=_;rw[ag rfl],by rw[ai];exact g.len,wK bs dss g.len' λi b ds e1 e2=>?_⟩;obtain⟨xs,w1,w2,w3,w4⟩:=g.each i b ds e1 e2;have hb:=bw e1;refine⟨xs,?_,nM.mono s0 _ _ w4⟩;show (if b=a then _ else if b∈bs then H b else H0 b)=_;have nb:b≠a:=λz=>na (by rw[<-z];exact hb);rw[ah nb,ag hb];exact w1
def FY{L:List D}{s2:Sl}(h:s2.own=false):∀s∈[Sl.im (.lst L),.un,s2],s.own=false:=λs hs=>by
 simp only[aW,dW,or_false]at hs;rcases hs with rfl|rfl|rfl
 ·rfl
 ·rfl
 ·exact h
inductive GI(G:Bg) (F:Fr) (Ha:Hp) (p:Addr) (L:List D) (vk:D->Option D) (KS:List Key) (DSS:List (List D)) (i:Nat) (σ':St) (H':Hp):Prop
 |mk (Hi:Hp) (ks:List Key) (dss:List (List D)) (bs:List Addr) (s2:Sl):nR Ha Hi->Sl.own s2=false->nY G F σ' [.im (.lst L),.un,s2] Hi H'->σ'[1]?=some (some (.ref p))->Grp G F Hi H' p ks dss bs->yb vk (L.drop i) ks dss=some (KS,DSS)->GI G F Ha p L vk KS DSS i σ' H'
theorem Ee{st1 st2 st3:Stmt}{vk:D->Option D}(h1:PS X st1 (uD BA (r9 1)))(h2:PS X st2 (Kn (tFI G (iL (cV 0))) (r9 2) (A6 G (c1 vk (cV 2)))))
  (h3:PS X st3 (Ny (λσ H Q=>sj 1 σ H λx H1=>Q x H1\/∃a kvs,H1 a=some (.dK kvs)/\∀o,Q x (upd H1 a (.frz o (.dK kvs)))))):PSs X [st1,st2,st3] (tFS G (BS vk)):=
 PSs.weak (ve h1 (ve h2 (xm h3))) λE σ H hh=>by
  obtain⟨F,ρ,H0,o,R,e,k,k2⟩:=hh;unfold BS at e;split at e
  ·rename_i L;cases eg:yb vk L [] []with
   |none=>simp only[eg]at e;cases e
   |some p=>
    obtain⟨KS,DSS⟩:=p;simp only[eg]at e;cases e;intro p hp;have R1:nY G F (σ.set 1 (some (.ref p))) [.im (.lst L),.un,.un] H0 (upd H p (.dK [])):=(R.newOwn hp (.dK [])).set (i:=1) (v:=.ref p) (s:=.un) trivial (λz=>by cases z);have hlen:σ.length=3:=R.len;have g1:Grp G F H0 (upd H p (.dK [])) p [] [] []:=⟨nW,R.h0none hp,R.bNone hp,rfl,rfl,iC,iC,λi b ds e1=>by cases e1⟩;have v1:(σ.set 1 (some (V.ref p)))[1]?=some (some (.ref p)):=by rw[fZ (by rw[hlen];decide)]
    refine⟨_,_,_,L,_,nY.still R1 (FY rfl),rfl,λJ Ha Hb s Ra wk=>?_⟩;have hs:nR (upd H p (.dK [])) Hb:=λb o e=>Ra.keep b o e (by simp);have R2:=R1.grow hs s Ra.sub Ra.fr;have g2:=g1.grow hs s Ra.fr;refine⟨λi m σ' H'=>m=L.length - i/\i<=L.length/\GI G F Ha p L vk KS DSS i σ' H',
     ⟨_,rfl,b8 _,Ha,[],[],[],.un,nR.refl _,rfl,R2,v1,g2,eg⟩,?_⟩
    rintro i m σi Hi' ⟨rfl,hi,Hi,ks,dss,bs,s2,si,n2,Ri,vi,gi,ei⟩;by_cases hlt:i<L.length
    ·have ed:L.drop i=L[i]::L.drop (i+1):=gU hlt;rw[ed]at ei;unfold yb at ei;cases ev:vk L[i]with
     |none=>simp only[ev]at ei;cases ei
     |some x=>
      simp only[ev]at ei;cases ek:xl x with
      |none=>simp only[ek]at ei;cases ei
      |some kk=>
       simp only[ek]at ei;split at ei
       ·rename_i hb;simp only[aA,bF,aw]at hb;obtain⟨go,yl⟩:=(wk i Hi Hi' si Ri.sub).1 L[i] (aS hlt);refine .inr ⟨go,GI G F Ha p L vk KS DSS (i+1),
         λσ' H' q=>⟨L.length - (i+1),by omega,rfl,hlt,q⟩,λxv H' y=>?_⟩
        obtain⟨H2,t1,t2,t3,t4,t5⟩:=yl xv H' y;have hl3:σi.length=3:=Ri.len;have R3:nY G F (σi.set 2 (some xv)) [.im (.lst L),.un,.im L[i]] H2 H':=(Ri.grow t3 t1 t2 t4).setIm 2 t5;have w1:(σi.set 2 (some xv))[1]?=some (some (.ref p)):=by rw[hE (by decide)];exact vi
        have w2:(σi.set 2 (some xv))[2]?=some (some xv):=by rw[fZ (by rw[hl3];decide)]
        refine FX R3 (FY rfl) w1 w2 t5 (gi.grow t3 t1 t4) (by show c1 vk (cV 2) _=_;unfold c1 cV;simp only[jh,ji,ev]) ek hb.1 (λds hd=>hb.2 ds hd) λHc Hd bs' sc Rc gc=>?_;exact⟨Hc,_,_,bs',_,si.trans (t1.trans sc),rfl,Rc,w1,gc,ei⟩
       ·cases ei
    ·have hi':i=L.length:=by omega
     refine .inl ⟨(wk i Hi Hi' si Ri.sub).2 hi',?_⟩;subst hi';rw[List.drop_length]at ei;cases ei;refine⟨.ref p,vi,.inr ⟨p,_,gi.at_,λo=>?_⟩⟩;obtain⟨Hq,q1,q2,q3⟩:=IH Ri gi o;exact k _ _ Hq _ (s.trans (si.trans q1)) q2 q3
  ·cases e
end
section
variable{X:Cx}{G:Bg}
theorem II:∀y b,pT "int" y=some b->cm X.K (y.val G) (.type "int")=some b:=λy b h=>by
 cases y with
 |c k=>cases h
 |b n=>
  unfold pT at h;simp only at h
  iterate 7 (split at h;· rename_i e;subst e;cases h;first|rfl|kernel_rfl)
  cases h
theorem FZ:∀y b,pT "bool" y=some b->cm X.K (y.val G) (.type "bool")=some b:=λy b h=>by
 cases y with
 |c k=>cases h
 |b n=>
  unfold pT at h;simp only at h
  iterate 7 (split at h;· rename_i e;subst e;cases h;first|rfl|kernel_rfl)
  cases h
theorem kit_tuple:∀y b,pT "tuple" y=some b->cm X.K (y.val G) (.type "tuple")=some b:=λy b h=>by
 cases y with
 |c k=>cases h
 |b n=>
  unfold pT at h;simp only at h
  iterate 7 (split at h;· rename_i e;subst e;cases h;first|rfl|kernel_rfl)
  cases h
end
end L4
namespace L4
open PySem PySem.Spec PySem.Calls PyProof.Rows PySem.W L2 L3
inductive StrsAre:List aa->List Str->Prop
 |nil:StrsAre [] []
 |cons (x:Str) (t:Tok) {vs:List aa} {xs:List Str} (h:StrsAre vs xs):StrsAre (.str x t::vs) (x::xs)
end L4
namespace L4
open PySem PySem.Spec PyProof.Rows L2 L3
def CM:List String:=["NoneType", "bool", "int", "str", "tuple", "list", "dict"]
def yc(n c:Nat):Ty->Option Bool:=λy=>match y with
 |.b x=>if CM.contains x=true then some false else none
 |.c k=>if k<n then some (k==c)else none
def vB(K:aj)(cs:List Addr)(C:Addr)(c:Nat):Bool:=
 CM.all (λx=>cm K (.type x) (.ref C)==some false)&&(aO cs.length).all λk=>cm K (.ref (cs.getD k 0)) (.ref C)==some (k==c)
theorem we{B:Bg}{n c:Nat}{cs:List Addr}(h:vB B.K cs (B.ca c) c=true)(hn:cs.length=n)(hc:∀k,k<n->cs.getD k 0=B.ca k)(hI:∀k,k<n->D6 B.K (B.ca k)):BL B c (yc n c):=by
 unfold vB at h;rw[aA,aw,aw]at h;refine⟨λy b e=>?_,λj b e=>?_⟩
 ·cases y with
  |b x=>
   unfold yc at e;simp only at e;split at e
   ·rename_i hx;cases e;exact eW (h.1 x (jx.mp hx))
   ·cases e
  |c k=>
   unfold yc at e;simp only at e;split at e
   ·rename_i hk;cases e;have:=eW (h.2 k (bA.mpr (by omega)));rw[hc k hk]at this;exact this
   ·cases e
 ·unfold yc at e;simp only at e;split at e
  ·rename_i hk;exact hI j hk
  ·cases e
theorem LF{l:List Addr}(h:l.Nodup){j k:Nat}(hj:j<l.length)(hk:k<l.length)(e:l.getD j 0=l.getD k 0):j=k:=by
 rw[fW,fW,aS hj,aS hk]at e;have pw:=jc.mp h;rcases jZ j k with y|y|y
 ·exact ak e (pw j k hj hk y)
 ·exact y
 ·exact ak e.symm (pw k j hk hj y)
variable{x:Str}
section
variable{B:Bg}{K:aj}{mg:Str->Option aa}{h:Heap}
theorem const_int{i:Int}{t:Tok}(X:K.In h)(Gn:h.Ns aG mg)(e:fo K aG x=some (some (.int i t))):uz B mg x (.int i):=
 ⟨.int i,_,gO X Gn e,⟨_,rfl⟩,λ_=>pK _⟩
inductive tu:List aa->List Str->Prop
 |nil:tu [] []
 |cons {v:aa} {x:Str} {t:Tok} {vs:List aa} {xs:List Str} (e:v=.str x t) (h:tu vs xs):tu (v::vs) (x::xs)
theorem tu.vals{vs:List aa}{xs:List Str}(h:tu vs xs):Vals (xs.map V.str) vs:=by
 induction h with
 |nil=>exact .nil
 |cons e h ih=>exact .cons ⟨_,e⟩ ih
theorem yd{H:Hp}:∀xs:List Str,nM B H (xs.map D.str) (xs.map V.str)
 |[]=>ot
 |x::xs=>oB (vn x) (yd xs)
theorem BU{a:Addr}{o:Obj}{its:Array aa}{n:Nat}(xs:List Str)(X:B.K.In h)(Gn:h.Ns aG mg)(e:fo B.K aG x=some (some (.ref a)))(l:B.K.lookup a=some o)(hc:o.cls=.type "tuple")(hd:o.data=.seq its n)(hz:its.size<=1000)
  (r:tu its.toList xs):uz B mg x (.tup (xs.map D.str)):=
 ⟨.ref a,_,gO X Gn e,rfl,λH=>zU (.inr ⟨o,its,n,l,hc,hd,by rw[cz];omega,r.vals⟩) (yd xs)⟩
end
variable{l ns:List Str}
section
variable{f g' h:FS}{c:FT}{e e' e2:FE}{a a':FA}{ρ ρ' ρ1 ρ2 ρ3:List Sl}{d x y z:D}{ds xs ys:List D}{k:Nat}{cap:List Nat}{g:FG}{ft:FT}{fe:FE}
theorem ye{α:Type}(dd:α->D)(p:α->Bool)(h:α->D):∀l:List α,
  (∀a∈l,∃ρ1 ρ2,g (dd a) (xj k cap ρ)=some ρ1/\ft ρ1=some (p a,ρ2)/\(p a=true->∃ρ3,fe ρ2=some (h a,ρ3)/\qO cap (ρ3.drop k) ρ=some ρ)/\(p a=false->qO cap (ρ2.drop k) ρ=some ρ))->
  ua k cap g ft fe (l.map dd) ρ=some ((l.filter p).map h,ρ)
 |[],_=>rfl
 |a::l,st=>by
  obtain⟨ρ1,ρ2,h1,h2,h3,h4⟩:=st a aH;have ih:=ye dd p h l λa' ha=>st a' (aM _ ha);rw[aN];unfold ua;rw[h1];simp only[h2];cases hp:p a with
  |true=>obtain⟨ρ3,h5,h6⟩:=h3 hp;simp only[h5,h6,ih,ix,hp,if_true,aN]
  |false=>simp only[h4 hp,ih,ix,hp];rfl
theorem IJ{α:Type}(dd:α->D)(h:α->D)(l:List α)(st:∀a∈l,∃ρ1 ρ3,g (dd a) (xj k cap ρ)=some ρ1/\fe ρ1=some (h a,ρ3)/\qO cap (ρ3.drop k) ρ=some ρ):ua k cap g oQ fe (l.map dd) ρ=some (l.map h,ρ):=by have:=ye (ft:=oQ) dd (λ_=>true) h l λa ha=>let ⟨ρ1,ρ3,h1,h2,h3⟩:=st a ha;⟨ρ1,ρ1,h1,rfl,λ_=>⟨ρ3,h2,h3⟩,λz=>by cases z⟩;rw[this,jH.mpr λ_ _=>rfl]
theorem IK(neg:Bool)(a b:Str):dEq neg (.str a) (.str b)=some (.bl (if neg then !decide (a=b)else decide (a=b))):=by
 have e:BG neg (.str a) (.str b)=some (.bl (if neg then !decide (V.str a=V.str b)else decide (V.str a=V.str b))):=rfl;have e2:decide (V.str a=V.str b)=decide (a=b):=by
  by_cases h:a=b
  ·subst h;simp
  ·rw[bh h,bh (λz=>h (by injection z))]
 unfold dEq;rw[e,e2]
theorem F0(a:Str)(l:List Str):inV (V.str a) (l.map V.str)=decide (a∈l):=by
 unfold inV;rw[dB,bS,bF];constructor
 ·rintro⟨v,hv,he⟩;obtain⟨b,hb,rfl⟩:=aI.mp hv;have:b=a:=by unfold eqV at he;simpa using he
  rw[<-this];exact hb
 ·intro ha;refine⟨.str a,ba ha,?_⟩;unfold eqV;simp
theorem Ef(l:List Str):(l.map D.str).all pZ=true:=by rw[fR,aw];intro x _;rfl
theorem IL(l:List Str):(l.map D.str).map vD=l.map V.str:=by rw[bL];rfl
theorem yf(neg:Bool)(a:Str)(l:List Str):dIn neg (.str a) (.lst (l.map D.str))=some (.bl (if neg then !decide (a∈l)else decide (a∈l))):=by unfold dIn;show (if pZ (.str a)&&(l.map D.str).all pZ then some (D.bl (if neg then !inV (vD (.str a)) ((l.map D.str).map vD)else inV (vD (.str a)) ((l.map D.str).map vD)))else none)=_;rw[Ef,IL];show some (D.bl (if neg then !inV (V.str a) (l.map V.str)else inV (V.str a) (l.map V.str)))=_;rw[F0]
theorem F1(neg:Bool)(a:Str)(l:List Str):dIn neg (.str a) (.tup (l.map D.str))=some (.bl (if neg then !decide (a∈l)else decide (a∈l))):=yf neg a l
theorem z9:∀bs:List Bool,yP (bs.map D.bl)=some bs
 |[]=>rfl
 |b::bs=>by rw[aN];unfold yP;rw[z9 bs];rfl
theorem F2(bs:List Bool):ql (.lst (bs.map D.bl))=some (.bl (bs.all id)):=by unfold ql;simp only[z9];rfl
theorem F3(bs:List Bool):x9 (.lst (bs.map D.bl))=some (.bl (bs.any id)):=by unfold x9;simp only[z9];rfl
theorem IM{α:Type}(l:List α)(p:α->Bool):ql (.lst (l.map λa=>D.bl (p a)))=some (.bl (l.all p)):=by rw[show (l.map λa=>D.bl (p a))=(l.map p).map D.bl by rw[bL];rfl,F2,fR];rfl
theorem IP{α:Type}(l:List α)(p:α->Bool):x9 (.lst (l.map λa=>D.bl (p a)))=some (.bl (l.any p)):=by rw[show (l.map λa=>D.bl (p a))=(l.map p).map D.bl by rw[bL];rfl,F3,List.any_map];rfl
theorem yg:∀l:List Str,uI (l.map D.str)=some (l.map Sum.inr)
 |[]=>rfl
 |x::l=>by rw[aN];unfold uI;rw[yg l];rfl
theorem F4:∀(l acc:List Key),(acc++l).Nodup->l.foldl ddp acc=acc++l
 |[],acc,_=>by rw[bK];rfl
 |k::l,acc,h=>by
  have hn:acc.any (λz=>decide (z=k))=false:=by rw[fH];intro z;obtain⟨y,hy,ey⟩:=bS.mp z;rw[bO]at h;exact h.2.2 y hy k aH (bG ey)
  rw[cP,show ddp acc k=acc++[k] by unfold ddp;rw[hn];rfl,F4 l (acc++[k]) (by simpa using h)];simp
theorem zi(h:l.Nodup):(l.map (Sum.inr:Str->Key)).Nodup:=by unfold List.Nodup at h ⊢;rw[j1];exact h.imp λhne z=>hne (gy z)
theorem A7(h:l.Nodup)(hl:l.length<=1000):qg (l.map D.str)=some (.int l.length):=by unfold qg;rw[yg];simp only[ai,hl,if_true];unfold rR;rw[F4 _ [] (by simpa using zi h)];simp
theorem CN(neg:Bool)(a b:Int):dEq neg (.int a) (.int b)=some (.bl (if neg then !decide (a=b)else decide (a=b))):=by
 have e:BG neg (.int a) (.int b)=some (.bl (if neg then !decide (V.int a=V.int b)else decide (V.int a=V.int b))):=rfl;have e2:decide (V.int a=V.int b)=decide (a=b):=by
  by_cases h:a=b
  ·subst h;simp
  ·rw[bh h,bh (λz=>h (by injection z))]
 unfold dEq;rw[e,e2]
theorem qH(h1:e ρ=some (.bl true,ρ1)):qt e e' ρ=e' ρ1:=by unfold qt;rw[h1]
theorem uB{g:Nat->Option (List D->Option D)}{m:Str}{c:Nat}{hh:List D->Option D}(h1:e ρ=some (.obj c ns xs,ρ1))(h2:g c=some hh)(h3:ns.contains m=false)(h4:a ρ1=some (ys,ρ2))(h5:hh (.obj c ns xs::ys)=some d):qz g m e a ρ=some (d,ρ2):=by unfold qz;rw[h1];simp only[h2,h3,h4,h5];rfl
theorem CO{c:Nat}{g:List D->Option (List Str×List D)}(h1:a ρ=some (ds,ρ1))(h2:g ds=some (ns,xs)):nX c g a ρ=some (.obj c ns xs,ρ1):=by unfold nX;rw[h1];simp only[h2]
theorem F5{np n:Nat}{b:FS}(hl:ds.length=np)(h:b (L4.stE n ds)=some (.rn xs ρ)):fnD np n b ds=some (.lst xs):=by unfold fnD;rw[ag hl,h]
theorem A8:∀{ks:List Key} {ds:List D} {k:Key} {d:D},ks.Nodup->(k,d)∈ks.zip ds->x6 ks ds k=some d
 |[],_,k,d,_,h=>by simp at h
 |k'::ks,[],k,d,_,h=>by simp at h
 |k'::ks,d'::ds,k,d,nd,h=>by
  unfold x6;rw[dw]at h;rcases aW.mp h with e|h
  ·cases e;rw[ag rfl]
  ·rw[dY]at nd;rw[ah (λz=>nd.1 (by subst z;exact(gm h).1))];exact A8 nd.2 h
end
end L4
namespace L4
open PySem PySem.Spec PyProof.Rows L2 L3
open PySem.W (nsIn findIn keepIn isFn makesIn fnOf)
def BV{α:Type}:Nat->(List α->Prop)->Prop
 |0,P=>P []
 |n+1,P=>∀a,BV n λl=>P (a::l)
theorem xu{α:Type}:∀{n:Nat} {P:List α->Prop},BV n P->∀l,l.length=n->P l
 |0,P,h,[],_=>h
 |n+1,P,h,a::l,e=>xu (P:=λl=>P (a::l)) (h a) l (eS e)
structure CF(K:aj)(C:Addr)(xs:List Str):Prop where
 ci:D6 K C
 mks:makesIn K C=true
 kp:keepIn K (.ref C)=true
 na:(xs.all λx=>match findIn K (.ref C) x with|some none=>true|_=>false)=true
theorem CF.at{K:aj}{C:Addr}{xs:List Str}(c:CF K C xs)(i:Nat){x:Str}(h:xs[i]?=some x):Cls K C/\rO K C x:=⟨c.ci.cl,by
 have e:=aw.mp c.na x (bw h);unfold rO;split at e
 ·rename_i e1;exact e1
 ·cases e⟩
theorem uE{Q:Nat->Prop}{i:Nat}(h:Q i):∀c,(c==i)=true->Q c:=λc e=>by rw[beq_iff_eq]at e;subst e;exact h
theorem orQ{Q:Nat->Prop}{p:Nat->Bool}{i:Nat}(h:∀c,p c=true->Q c)(h':Q i):∀c,(p c||c==i)=true->Q c:=λc e=>by
 rw[dZ]at e;rcases e with e|e
 ·exact h c e
 ·exact uE h' c e
structure Yw(P:aq)(w:ao)(mg:Str->Option aa)(base:Heap)(G:Bg):Prop where
 m:∃h:Heap,G.K.In h/\h.Ns aG mg
variable{np:Nat}{vs:List V}{us:List aa}
section
variable{P:aq}{w:ao}{mg:Str->Option aa}{base:Heap}{G:Bg}{x m qual:Str}{st:Stmt}{N ps:List Str}{k c:Nat}{K:aj}
theorem Yw.g(y:Yw P w mg base G){v:aa}(e:nsIn G.K aG x=some (some v)):mg x=some v:=by obtain⟨h,X,Gn⟩:=y.m;exact gO X Gn e
theorem Yw.n(y:Yw P w mg base G){xs:List Str}(h:(xs.all λx=>match nsIn G.K aG x with|some none=>true|_=>false)=true)(i:Nat)(hi:xs[i]?=some x):mg x=none:=by
 obtain⟨hh,X,Gn⟩:=y.m;have e:=aw.mp h x (bw hi);split at e
 ·rename_i e1;exact W.mg_none_of X Gn e1
 ·cases e
def GC(K:aj)(x:Str)(i:Int):Prop:=∃t:Tok,nsIn K aG x=some (some (.int i t))
theorem Yw.ci(y:Yw P w mg base G){i:Int}(q:GC G.K x i):uz G mg x (.int i):=by obtain⟨h,X,Gn⟩:=y.m;obtain⟨t,e⟩:=q;exact const_int X Gn e
def GS(K:aj)(x:Str)(xs:List Str):Prop:=∃(a:Addr) (o:Obj) (its:Array aa) (n:Nat),nsIn K aG x=some (some (.ref a))/\K.lookup a=some o/\o.cls=.type "tuple" /\ o.data=.seq its n/\its.size<=1000/\tu its.toList xs
theorem Yw.cs(y:Yw P w mg base G){xs:List Str}(q:GS G.K x xs):uz G mg x (.tup (xs.map D.str)):=by obtain⟨h,X,Gn⟩:=y.m;obtain⟨a,o,its,n,e,l,h1,h2,h3,h4⟩:=q;exact BU xs X Gn e l h1 h2 h3 h4
def GD(K:aj)(x:Str)(st:Stmt):Prop:=∃(f:Addr) (fd:bu),nsIn K aG x=some (some (.ref f))/\Fun K x x st f fd
def GM(K:aj)(C:Addr)(m qual:Str)(st:Stmt):Prop:=∃(f:Addr) (fd:bu),findIn K (.ref C) m=some (some (.ref f))/\isFn K (.ref f)=true/\Fun K m qual st f fd
def GJ(K:aj)(C:Addr)(qual:Str)(st:Stmt)(vs:List V):Prop:=∃(f:Addr) (fd:bu) (T:Addr) (o:Obj) (dl:List aa) (n:Nat),findIn K (.ref C) "__init__" = some (some (.ref f))/\isFn K (.ref f)=true/\DU K "__init__" qual st f fd T/\K.lookup T=some o/\o.data=.seq dl.toArray n/\Vals vs dl
abbrev Bdy(P:aq)(w:ao)(K:aj)(mg:Str->Option aa)(base:Heap)(N:List Str)(qual:Str)(st:Stmt)(k:Nat)(t:TS):Prop:=∀(f:Addr) (cdv:aa) (A:ay) (outer:List Env) (s:ae) (H:Hp) (E:XK),pf k (A.deeper (envOfC qual (nV st) s.heap.objs.size f cdv))->PSs (ue P w K mg base N qual st f cdv A outer s H E) (oi st) t
abbrev Bds(x qual:Str)(st:Stmt)(ps:List Str):Prop:=BV ps.length λus=>∀(kV doc pm:aa) (an:Option Addr) (cdv ct:aa),bindArgs (fnOf x qual (qE st) (oi st) (nV st) .none kV doc pm an cdv ct) ⟨us,[]⟩=pure (ps.zip us)
theorem Bds.ok{f:Addr}{fd:bu}(b:Bds x qual st ps)(F:Fun K x qual st f fd):Binds K fd ps []:=F.binds λkV doc pm an cdv ct us hl=>xu b us hl kV doc pm an cdv ct
theorem gD{sp:Sp}(y:Yw P w mg base G)(q:GD G.K x st)(bd:Bds x x st ps)(ok:∀f fd,Fun G.K x x st f fd->qD P w G.K mg base CX0 k f fd ps sp):ud P w G.K mg base k x ps sp:=by obtain⟨f,fd,a,F⟩:=q;exact⟨f,fd,y.g a,F.kp,bd.ok F,ok f fd F⟩
theorem gF{n:Nat}{g:List D->Option D}{b:FS}(hg:g=fnD np n b)(y:Yw P w mg base G)(q:GD G.K x st)(S:pJ N ps (nV st))(body:Bdy P w G.K mg base N x st k (tFS G b))(hp:ps.length=np:=by rfl)(hN:N.length=n:=by rfl)(bd:Bds x x st ps:=by (repeat intro _);rfl):ud P w G.K mg base (k+1) x ps (spF G g):=
 gD y q bd λf fd F=>Ft hg hp hN F S (body f)
theorem gN'{n:Nat}{g:List D->Option (List D)}{b:FS}(hg:g=fnN np n b)(y:Yw P w mg base G)(q:GD G.K x st)(S:pJ N ps (nV st))(body:Bdy P w G.K mg base N x st k (tFS G b))(hp:ps.length=np:=by rfl)(hN:N.length=n:=by rfl)(bd:Bds x x st ps:=by (repeat intro _);rfl):ud P w G.K mg base (k+1) x ps (spN G g):=
 gD y q bd λf fd F=>Oe hg hp hN F S (body f)
theorem gM{n:Nat}{g:List D->List D->Option (D×List D)}{b:FS}{p:Str}(hg:g=fnM np n b)(y:Yw P w mg base G)(q:GD G.K x st)(S:pJ N (p::ps) (nV st))(body:Bdy P w G.K mg base N x st k (tFS G b))(hp:ps.length=np:=by rfl)(hN:N.length=n:=by rfl)(bd:Bds x x st (p::ps):=by (repeat intro _);rfl):ud P w G.K mg base (k+1) x (p::ps) (spM G g):=
 gD y q bd λf fd F=>Of hg hp hN F S (body f)
theorem gI{n:Nat}{g:List D->Option (List Str×List D)}{b:FS}{xs:List Str}{p:Str}(hg:g=fnI c np n b)(y:Yw P w mg base G)(C:CF G.K (G.ca c) xs)(a:nsIn G.K aG x=some (some (.ref (G.ca c))))(q:GM G.K (G.ca c) "__init__" qual st)(S:pJ N (p::ps) (nV st))(body:Bdy P w G.K mg base N qual st k (tFS G b))(hp:ps.length=np:=by rfl)(hN:N.length=n:=by rfl)(bd:Bds "__init__" qual st (p::ps):=by (repeat intro _);rfl):z4 G P w mg base (k+1) x c (p::ps) [] g:=by obtain⟨f,fd,i,i',F⟩:=q;exact⟨f,fd,[],⟨C.mks,i,i',C.kp⟩,y.g a,bd.ok F,.nil,Og hg hp hN F S (body f)⟩
theorem A9(h:Vals vs us):us.length=vs.length:=by
 induction h with
 |nil=>rfl
 |cons _ _ ih=>rw[aE,aE,ih]
theorem Eg(h:Vals vs us):∀j,Vals (vs.drop j) (us.drop j):=by
 induction h with
 |nil=>intro j;rw[kI,kI];exact .nil
 |cons a b ih=>
  intro j;cases j with
  |zero=>exact .cons a b
  |succ j=>exact ih j
theorem gJ{n:Nat}{g:List D->Option (List Str×List D)}{b:FS}{xs:List Str}{p:Str}(hg:g=fnI c np n b)(y:Yw P w mg base G)(C:CF G.K (G.ca c) xs)(a:nsIn G.K aG x=some (some (.ref (G.ca c))))(q:GJ G.K (G.ca c) qual st vs)(S:pJ N (p::ps) (nV st))(body:Bdy P w G.K mg base N qual st k (tFS G b))(j:Nat)(hp:ps.length=np:=by rfl)(hN:N.length=n:=by rfl)
  (bd:BV vs.length λdl=>BV ((p::ps).length - (vs.drop j).length) λus=>∀(T:Addr) (kV doc pm:aa) (an:Option Addr) (cdv ct:aa),∃k,bindArgs (fnOf "__init__" qual (qE st) (oi st) (nV st) (.ref T) kV doc pm an cdv ct) ⟨us,[]⟩=seqItems? (.ref T)>>=k/\k (some dl.toArray)=pure ((p::ps).zip (us++dl.drop j)):=by (repeat intro _);exact⟨_,rfl,rfl⟩):z4 G P w mg base (k+1) x c (p::ps) (vs.drop j) g:=by
 obtain⟨f,fd,T,o,dl,n,i,i',F,l,e,r⟩:=q;refine⟨f,fd,dl.drop j,⟨C.mks,i,i',C.kp⟩,y.g a,F.binds l e λkV doc pm an cdv ct us hl=>?_,Eg r j,Lo hg hp hN F S (body f)⟩;exact xu (xu bd dl (A9 r)) us (by rw[hl,cp,cp,A9 r]) T kV doc pm an cdv ct
end
end L4
namespace L4
open PySem PySem.Spec PySem.Calls PyProof.Rows PySem.W L2 L3
structure Sto(c:Nat->Nat->Bool)(n:Nat):Prop where
 tr:∀i j k,i<n->j<n->k<n->c i j=true->c j k=true->c i k=true
 tot:∀i j,i<n->j<n->i≠j->c i j=false->c j i=true
section
variable{X:Cx}{G:Bg}{pins:List (Addr×Obj)}{σ:St}{H:Hp}{s:ae}
def Pd(K:aj)(H:Hp)(y:V)(k:List Str):Prop:=∃a p q,y=.ref a/\k=[p,q]/\SqT K H a [.str p,.str q]
end
def key2:D->Option (List Str)
 |.tup [.str p,.str q]=>some [p,q]
 |_=>none
def zj:List D->Option (List (List Str))
 |[]=>some []
 |d::ds=>match key2 d,zj ds with
  |some k,some ks=>some (k::ks)
  |_,_=>none
section
variable{X:Cx}{G:Bg}{H:Hp}
theorem F6{d:D}{v:V}{k:List Str}(r:Rep G H d v)(e:key2 d=some k):Pd G.K H v k:=by
 unfold key2 at e;split at e
 ·rename_i p q;cases e;unfold Rep at r;obtain⟨a,xs,rfl,h1,h2⟩:=r;unfold nM at h2;obtain⟨v1,r1,rfl,q1,q2⟩:=h2;unfold nM at q2;obtain⟨v2,r2,rfl,q3,q4⟩:=q2;unfold nM at q4;unfold Rep at q1 q3;subst q4 q1 q3;exact⟨a,p,q,rfl,rfl,h1⟩
 ·cases e
end
end L4
namespace L4
open PySem PySem.Spec PyProof.Rows L2 L3
structure Bz where
 P:aq
 w:ao
 mg:Str->Option aa
 base:Heap
 G:Bg
structure ZE(X:Cx)(B:Bz)(e:Expr)(f:FE):Prop where p:PE X e (tF B.G f)
structure ZN(X:Cx)(B:Bz)(e:Expr)(f:FA):Prop where p:PE X e (tFN B.G f)
structure ZT(X:Cx)(B:Bz)(e:Expr)(f:FT):Prop where p:PT X e (tFT B.G f)
structure ZW(X:Cx)(B:Bz)(e:Expr)(f:FT):Prop where p:PW X e (tFT B.G f)
structure ZF(X:Cx)(B:Bz)(e:List Expr)(f:FT):Prop where p:PIf X e (tFT B.G f)
structure ZA(X:Cx)(B:Bz)(e:List Expr)(f:FA):Prop where p:PA X e (tFA B.G f)
structure ZS(X:Cx)(B:Bz)(e:Stmt)(f:FS):Prop where p:PS X e (tFS B.G f)
structure ZB(X:Cx)(B:Bz)(e:List Stmt)(f:FS):Prop where p:PSs X e (tFS B.G f)
structure ZI(X:Cx)(B:Bz)(tg e:Expr)(f:FA):Prop where p:PI X tg e (tFI B.G f)
structure ZO(X:Cx)(B:Bz)(e:Option Expr)(f:FO):Prop where p:PO X e (tFO B.G f)
structure ZG(X:Cx)(B:Bz)(e:Expr)(n:Nat)(f:FG):Prop where p:PG X e (tFG B.G n f)
structure ZH(X:Cx)(B:Bz)(e:List Expr)(n:Nat)(f:List D->List Sl->Option (List Sl)):Prop where p:PGs X e (E4 B.G n f)
structure ZV(X:Cx)(e:Expr)(i:Nat):Prop where p:PE X e (sj i)
abbrev Gz(X:Cx)(x:Str):Prop:=X.env.kindOf x=some .globalImplicit
abbrev Dz(x:Str):Prop:=(x==("__debug__" : Str))=false
abbrev Nz(x:Str):Prop:=(decide (x≠"__name__")&&!(x==("__debug__" : Str)))=true
abbrev Sz(X:Cx)(e:Expr)(es:List Expr):Prop:=ar (e::es) X.env=(false,eval e X.env)::ar es X.env
abbrev S1(X:Cx)(e:Expr):Prop:=ar [e] X.env=[(false,eval e X.env)]
abbrev Lz(X:Cx)(pos:Pos)(es:List Expr):Prop:=(aX pos (ar es X.env)).any (·.1)=false
abbrev Wz(X:Cx)(e o:Expr)(pos:Pos):Prop:=b9 e (some o) pos.line X.env=pure false
abbrev Az(X:Cx)(o:Expr)(m:Str):Prop:=d6 o m X.env (eval o X.env)=eval o X.env
abbrev Ez(p pos:Pos):Prop:=(p.endLine==pos.line)=true
abbrev Iz(e:Expr):Prop:=(λo i=>subscripted e false o i)=λo i=>operate [o,i] (getItem o i)
abbrev Fz(X:Cx)(e:Expr):Prop:=(λx=>fF e X.env x)=λx=>pure x
class Cz(X:Cx)(B:outParam Bz)(k:outParam Nat):Prop where
 P:X.prog=B.P
 w:X.w=B.w
 K:X.K=B.G.K
 mg:X.mg=B.mg
 b:X.base=B.base
 c:X.calm=true
 r:pf k X.A
class Yb(B:Bz):Prop where y:Yw B.P B.w B.mg B.base B.G
class Df(B:Bz)(j:outParam Nat)(x:Str)(sp:Sp):Prop where p:∃ps,ud B.P B.w B.G.K B.mg B.base j x ps sp
class Kf(B:Bz)(j:outParam Nat)(x:Str)(c:Nat)(g:List D->Option (List Str×List D))(dds:List D):Prop where
 p:∃ps,z4 B.G B.P B.w B.mg B.base j x c ps (dds.map vD) g
 f:dds.all pZ=true
class Mf(B:Bz)(j:outParam Nat)(m:Str)(g:Nat->Option (List D->Option D)):Prop where p:∀c h,g c=some h->wb B.G B.P B.w B.mg B.base j m c h
class Ff(B:Bz)(ok:Nat->Bool)(f:Str):Prop where p:∀c,ok c=true->Cls B.G.K (B.G.ca c)/\rO B.G.K (B.G.ca c) f
class Af(B:Bz)(c:Nat)(xs:outParam (List Str)):Prop where p:CF B.G.K (B.G.ca c) xs
class Nb(B:Bz)(x:Str):Prop where p:B.mg x=none
class Co(B:Bz)(x:Str)(d:D):Prop where p:uz B.G B.mg x d
class Ic(B:Bz)(x:Str)(t:Ty->Option Bool):Prop where p:∃c,BL B.G c t/\B.mg x=some (.ref (B.G.ca c))
class Ij(B:Bz)(n:Nat):Prop where p:∀j k,j<n->k<n->B.G.ca j=B.G.ca k->j=k
class OpC(op:gH)(g:D->D->Option D):Prop where p:∀(X:Cx) (G:Bg),∃r,OpR X (cF op) r/\OpD G r g
instance in1:OpC .Mod qk:=⟨λ_ _=>⟨_,Ks,K6⟩⟩
instance in2:OpC .FloorDiv tK:=⟨λ_ _=>⟨_,GY,K7⟩⟩
instance in3:OpC .Mult rQ:=⟨λ_ _=>⟨_,Kr,K5⟩⟩
instance in5:OpC .Pow Fi:=⟨λ_ _=>⟨_,Kt,K8⟩⟩
instance in6:OpC .Add qA:=⟨λ_ _=>⟨_,Kq,K4⟩⟩
class CmC(op:eB)(g:D->D->Option D):Prop where p:∀(X:Cx) (G:Bg),X.K=G.K->X.A.units+64<cLine->∃r,OpR X (aU op) r/\OpD G r g
instance in9:CmC .Eq (dEq false):=⟨λ_ _ h u=>⟨_,Le u h,Oa⟩⟩
instance in10:CmC .NotEq (dEq true):=⟨λ_ _ h u=>⟨_,Lf u h,Ob⟩⟩
instance in11:CmC .In (dIn false):=⟨λ_ _ h _=>⟨_,Lg h,JA⟩⟩
instance in12:CmC .NotIn (dIn true):=⟨λ_ _ h _=>⟨_,D2 h,JA⟩⟩
instance in13:CmC .Is xk:=⟨λ_ _ _ _=>⟨_,Ku,La⟩⟩
instance in14:CmC .IsNot zc:=⟨λ_ _ _ _=>⟨_,GZ,Ih⟩⟩
instance in16:CmC .Lt Ig:=⟨λ_ _ _ _=>⟨_,NG,N6⟩⟩
instance in17:CmC .LtE r6:=⟨λ_ _ _ _=>⟨_,NH,N7⟩⟩
instance in18:CmC .Gt Fj:=⟨λ_ _ _ _=>⟨_,NI,N8⟩⟩
instance in19:CmC .GtE K3:=⟨λ_ _ _ _=>⟨_,NJ,N9⟩⟩
instance in20:CmC .LtE Fk:=⟨λ_ _ _ _=>⟨_,DT,K9⟩⟩
class B1(x:Str)(g:D->Option D):Prop where p:∀(X:Cx) (G:Bg),X.K=G.K->X.calm=true->∃(id:String) (r:List V->Hp->VK->Prop),pR X (.builtin id) r/\zd G r g/\cQ x=some (.builtin id)
instance in21:B1 "len" p6:=⟨λ_ _ h _=>⟨_,_,D4 h,Lh,kz⟩⟩
instance in22:B1 "all" ql:=⟨λ_ _ h c=>⟨_,_,D5 c h,Ll,boot_all⟩⟩
instance in23:B1 "any" x9:=⟨λ_ _ h c=>⟨_,_,Eb c h,Lq,boot_any⟩⟩
class KtC(x:Str)(T:outParam String):Prop where p:(∀(X:Cx) (G:Bg) y b,pT T y=some b->cm X.K (y.val G) (.type T)=some b)/\cQ x=some (.type T)
instance in24:KtC "str" "str" := ⟨λ_ _=>Iq,Pv.boot_str⟩
instance in25:KtC "int" "int" := ⟨λ_ _=>II,lu⟩
instance in26:KtC "bool" "bool" := ⟨λ_ _=>FZ,Pv.boot_bool⟩
instance in27:KtC "list" "list" := ⟨λ_ _=>Fw,kU⟩
instance in28:KtC "tuple" "tuple" := ⟨λ_ _=>kit_tuple,Pv.boot_tuple⟩
theorem JF{G:Bg}{H:Hp}:∀{dds:List D},dds.all pZ=true->nM G H dds (dds.map vD)
 |[],_=>ot
 |d::ds,h=>by rw[cy,aA]at h;exact oB (vw h.1 H) (JF h.2)
theorem eqI{α:Sort u}{a b:α}(h:a=b):a=b:=h
def sees(X:Cx)(i:Nat)(x:Str):Bool:=decide (X.N[i]?=some x)&&(match X.env.scope.names.lookup x with|some .local=>true|some .cell=>true|some .free=>true|_=>false)&&!(x==("__debug__" : Str))&&!(x==("__classdict__" : Str))
def sets(X:Cx)(i:Nat)(x:Str):Bool:=decide X.N.Nodup&&decide (X.N[i]?=some x)&&(match X.env.scope.names.lookup x with|some .local=>true|some .cell=>X.fn x|_=>false)
variable{fu:FT}{id T:String}
section
variable{X:Cx}{B:Bz}{k j i n c0:Nat}{x m:Str}{e e' o tg it:Expr}{es:List Expr}{p p2 p3 pos apos:Pos}{f f' f2:FE}{a:FA}{g:D->D->Option D}
theorem pvI(h:sees X i x=true):PE X (.Name x p) (sj i):=by
 unfold sees at h;simp only[aA,bF,c7]at h;obtain⟨⟨⟨h1,h2⟩,h3⟩,h4⟩:=h;refine pv i h1 ?_ h3 h4;unfold Vis;split at h2
 ·rename_i e;exact .inl e
 ·rename_i e;exact .inr (.inl e)
 ·rename_i e;exact .inr (.inr e)
 ·cases h2
theorem On(h:sees X i x=true):ZE X B (.Name x p) (cV i):=⟨BD (pvI h)⟩
theorem LG(h:sees X i x=true):ZE X B (.Name x p) (cFz i):=⟨N4 (pvI h)⟩
theorem IQ(h:sees X i x=true):ZN X B (.Name x p) (Fd i):=⟨HY (pvI h)⟩
theorem Aa(h:sets X i x=true):X.N.Nodup/\X.N[i]?=some x/\L2.Loc X.env.scope x/\(X.fn x=true\/X.env.scope.names.lookup x=some .local):=by
 unfold sets at h;simp only[aA,bF]at h;obtain⟨⟨h1,h2⟩,h3⟩:=h;unfold L2.Loc;split at h3
 ·rename_i e;exact⟨h1,h2,.inl e,.inr e⟩
 ·rename_i e;exact⟨h1,h2,.inr e,.inl h3⟩
 ·cases h3
theorem pgI(h:sets X i x=true):PG X (.Name x p) (r9 i):=by obtain⟨h1,h2,h3,h4⟩:=Aa h;exact B9 h1 h2 h3 h4
theorem LH(h:sets X i x=true)(hi:Nat.blt i n=true):ZG X B (.Name x p) n (gN i):=⟨E5 n (pgI h) (Nat.blt_eq.mp hi)⟩
theorem stW{te:TE}(h:sets X i x=true)(he:PE X e te)(hs:Wz X e (.Name x p) pos):PS X (.Assign [.Name x p] e pos) (uD te (r9 i)):=by obtain⟨h1,h2,h3,h4⟩:=Aa h;exact Kk h1 h2 h3 he hs h4
theorem LI(h:sets X i x=true)(he:ZE X B e f)(hs:Wz X e (.Name x p) pos):ZS X B (.Assign [.Name x p] e pos) (oJ i f):=⟨Ct (stW h he.p hs)⟩
theorem LJ(h:sets X i x=true)(he:ZN X B e a)(hs:Wz X e (.Name x p) pos):ZS X B (.Assign [.Name x p] e pos) (qN i a):=⟨AK (stW h he.p hs)⟩
theorem LK(h:sets X i x=true)(hs:Wz X (.Dict [] [] p2) (.Name x p) pos):ZS X B (.Assign [.Name x p] (.Dict [] [] p2) pos) (zf i):=⟨FH (stW h AB hs)⟩
theorem LL{op:gH}[O:OpC op g](ha:ZE X B e f)(hb:ZE X B e' f'):ZE X B (.BinOp e op e' pos) (c2 g f f'):=by obtain⟨r,h1,h2⟩:=O.p X B.G;exact⟨NW h1 h2 ha.p hb.p⟩
theorem LM [C:Cz X B k](ha:ZE X B e f)(hb:ZE X B e' f')(hs:Iz e'):ZE X B (.Subscript e e' pos) (c2 dIx f f'):=⟨NX (Pb C.K) Od ha.p hb.p λo i=>congrFun (congrFun hs o) i⟩
theorem IR [C:Cz X B k](h:sees X i x=true)(hb:ZE X B e' f')(hs:Iz e'):ZE X B (.Subscript (.Name x p) e' pos) (tT i f'):=⟨K1 (Jt (EU B.G.K C.K) (pvI h) hb.p λo i=>congrFun (congrFun hs o) i)⟩
theorem LN [C:Cz X B k](ha:ZE X B e f)(hb:ZE X B e' f')(hs:Iz e'):ZE X B (.Subscript e e' pos) (c2 wG f f'):=⟨Iw (Jx C.r) ha.p hb.p λo i=>congrFun (congrFun hs o) i⟩
section
variable{op op':eB}{g':D->D->Option D}
theorem LO [O:CmC op g][C:Cz X B k](ha:ZE X B e f)(hb:ZE X B e' f')(hm:d5 op e'=false):ZE X B (.Compare e [op] [e'] pos) (c2 g f f'):=by obtain⟨r,h1,h2⟩:=O.p X B.G C.K C.r.units;exact⟨KQ h1 h2 ha.p hb.p hm⟩
theorem LP [O:CmC op g][C:Cz X B k](ha:ZE X B e f)(hb:ZE X B e' f')(hm:d5 op e'=false):ZT X B (.Compare e [op] [e'] pos) (cT (c2 g f f')):=by obtain⟨r,h1,h2⟩:=O.p X B.G C.K C.r.units;exact⟨Hy h1 h2 ha.p hb.p hm⟩
theorem LQ [O:CmC op g][O':CmC op' g'][C:Cz X B k](ha:ZE X B e f)(hb:ZE X B e' f')(hc:ZE X B o f2)(hm:lastMarks [op,op'] [e',o]=false):ZE X B (.Compare e [op,op'] [e',o] pos) (qu g g' f f' f2):=by obtain⟨r,h1,h2⟩:=O.p X B.G C.K C.r.units;obtain⟨r',h3,h4⟩:=O'.p X B.G C.K C.r.units;exact⟨Fq h1 h3 h2 h4 ha.p hb.p hc.p hm⟩
theorem LR [O:CmC op g][O':CmC op' g'][C:Cz X B k](ha:ZE X B e f)(hb:ZE X B e' f')(hc:ZE X B o f2)(hm:lastMarks [op,op'] [e',o]=false):ZT X B (.Compare e [op,op'] [e',o] pos) (cT (qu g g' f f' f2)):=by obtain⟨r,h1,h2⟩:=O.p X B.G C.K C.r.units;obtain⟨r',h3,h4⟩:=O'.p X B.G C.K C.r.units;exact⟨D7 h1 h3 h2 h4 ha.p hb.p hc.p hm⟩
end
theorem LS(h:ZE X B e f)(he:(λwhole=>isTrue e X.env whole)=λwhole=>(do let v<-whole;standAt e.pos;holding [v] (truthy v))):ZT X B e (cT f):=⟨Hz h.p λw=>congrFun he w⟩
theorem LU{ft:FT}(ha:ZT X B e ft)(hb:ZW X B (.BoolOp .Or (e'::es) pos) fu):ZT X B (.BoolOp .Or (e::e'::es) pos) (xi ft fu):=⟨PW.pt (EX ha.p hb.p)⟩
theorem LV{d:D}[C:Cz X B k][Q:Co B x d](hg:Gz X x)(hd:Dz x):ZE X B (.Name x pos) (cC d):=⟨Fu (C.mg▸Q.p) hg hd⟩
theorem LW{ok:Nat->Bool}[C:Cz X B k][Q:Ff B ok m](he:ZE X B e f)(hb:Az X e m):ZE X B (.Attribute e m pos) (c1 (n9 ok m) f):=⟨E9 he.p (C.K▸Q.p) hb⟩
section
variable(hg:Gz X x)(hd:Dz x)(hs:Sz X e es)(hl:Lz X pos es)
include hg hd
theorem dz{sp:Sp}[C:Cz X B k][Q:Df B j x sp]:∃ps,ud X.prog X.w X.K X.mg X.base j x ps sp:=by rw[C.P,C.w,C.K,C.mg,C.b];exact Q.p
theorem LX{g:List D->Option (List D)}[C:Cz X B k][Q:Df B j x (spN B.G g)](hj:bD j k=true):ZN X B (.Call (.Name x p) [] [] pos) (o6 g ox):=by obtain⟨ps,q⟩:=dz hg hd (X:=X) (Q:=Q);exact⟨Fs q (C.r.mono (cR.mp hj)) hg hd⟩
include hs hl
theorem LY{g:List D->Option D}[C:Cz X B k][Q:Df B j x (spF B.G g)](ha:ZA X B (e::es) a)(hj:bD j k=true):ZE X B (.Call (.Name x p) (e::es) [] pos) (nN g a):=by obtain⟨ps,q⟩:=dz hg hd (X:=X) (Q:=Q);exact⟨Ln q (C.r.mono (cR.mp hj)) ha.p hg hd hs hl⟩
theorem LZ{g:List D->Option (List D)}[C:Cz X B k][Q:Df B j x (spN B.G g)](ha:ZA X B (e::es) a)(hj:bD j k=true):ZN X B (.Call (.Name x p) (e::es) [] pos) (o6 g a):=by obtain⟨ps,q⟩:=dz hg hd (X:=X) (Q:=Q);exact⟨Im q (C.r.mono (cR.mp hj)) ha.p hg hd hs hl⟩
theorem L0{g:List D->List D->Option (D×List D)}[C:Cz X B k][Q:Df B j x (spM B.G g)](hv:ZV X e i)(ha:ZA X B es a)(hj:bD j k=true):ZE X B (.Call (.Name x p) (e::es) [] pos) (rZ g i a):=by obtain⟨ps,q⟩:=dz hg hd (X:=X) (Q:=Q);exact⟨Io q (C.r.mono (cR.mp hj)) hv.p ha.p hg hd hs hl⟩
theorem L1{g:List D->Option (List Str×List D)}{dds:List D}[C:Cz X B k][Q:Kf B j x c0 g dds](ha:ZA X B (e::es) a)(hj:bD (j+1) k=true):ZE X B (.Call (.Name x p) (e::es) [] pos) (nX c0 (λds=>g (ds++dds)) a):=by obtain⟨ps,q⟩:=Q.p;exact⟨Ip (by rw[C.P,C.w,C.mg,C.b];exact q) (λH=>JF Q.f) (C.r.mono (cR.mp hj)) ha.p C.K hg hd hs hl⟩
end
theorem mz{g:Nat->Option (List D->Option D)}[C:Cz X B k][Q:Mf B j m g]:∀c h,g c=some h->wb B.G X.prog X.w X.mg X.base j m c h:=by rw[C.P,C.w,C.mg,C.b];exact Q.p
theorem L6{g:Nat->Option (List D->Option D)}{pl:Sem Bool}[C:Cz X B k][Q:Mf B j m g](ho:ZE X B o f)(hj:bD j k=true)
  (ht:eval (.Call (.Attribute o m apos) [] [] pos) X.env=(do
   let ov<-eval o X.env
   standAt apos.atName
   let (f,first)<-holding [ov] (getMethod ov m pl)
   callWith pos f first (aX pos (ar [] X.env)) (backToKw pos (dh [] X.env)))):ZE X B (.Call (.Attribute o m apos) [] [] pos) (qz g m f ox):=⟨BI mz (C.r.mono (cR.mp hj)) ho.p C.K ht⟩
theorem L7{g:Nat->Option (List D->Option D)}{pl:Sem Bool}[C:Cz X B k][Q:Mf B j m g](ho:ZE X B o f)(ha:ZA X B (e::es) a)(hj:bD j k=true)(hs:Sz X e es)(hl:Lz X pos es)
  (ht:eval (.Call (.Attribute o m apos) (e::es) [] pos) X.env=(do
   let ov<-eval o X.env
   standAt apos.atName
   let (f,first)<-holding [ov] (getMethod ov m pl)
   callWith pos f first (aX pos (ar (e::es) X.env)) (backToKw pos (dh [] X.env)))):ZE X B (.Call (.Attribute o m apos) (e::es) [] pos) (qz g m f a):=⟨D8 mz (C.r.mono (cR.mp hj)) ho.p ha.p C.K hs hl ht⟩
section
variable(hg:Gz X x)(hd:Nz x)(hs:S1 X e)
include hg hd hs
theorem cbI{r:List V->Hp->VK->Prop}{t:TA}[C:Cz X B k][N:Nb B x](hc:pR X (.builtin id) r)(hv:cQ x=some (.builtin id))(ha:PA X [e] t):PE X (.Call (.Name x p) [e] [] pos) (tCB r t):=by simp only[aA,bF,c7]at hd;exact tW hc hg (C.mg▸N.p) hv ha hd.1 hd.2 hs rfl
theorem ctI{r:List V->Hp->VK->Prop}{t:TA}[C:Cz X B k][N:Nb B x](hc:pR X (.type T) r)(hv:cQ x=some (.type T))(ha:PA X [e] t):PE X (.Call (.Name x p) [e] [] pos) (tCB r t):=by simp only[aA,bF,c7]at hd;exact DK hc hg (C.mg▸N.p) hv ha hd.1 hd.2 hs rfl
theorem L8{g:D->Option D}[Q:B1 x g][C:Cz X B k][N:Nb B x](ha:ZE X B e f):ZE X B (.Call (.Name x p) [e] [] pos) (c1 g f):=by obtain⟨id,r,h1,h2,h3⟩:=Q.p X B.G C.K C.c;exact⟨JB h2 (cbI hg hd hs h1 h3 (pS ha.p rD hs))⟩
end
section
variable(hs:S1 X e)
include hs
theorem L9 [C:Cz X B k][N:Nb B "list"](hg:Gz X "list")(ha:ZE X B e f):ZN X B (.Call (.Name "list" p) [e] [] pos) (uH f):=⟨Fo (ctI hg (by decide) hs (BH C.K) kU (pS ha.p rD hs))⟩
theorem Ma [C:Cz X B k][N:Nb B "range"](hg:Gz X "range")(ha:ZE X B e f):ZI X B tg (.Call (.Name "range" p) [e] [] pos) (iR1 f):=⟨BF (DB hg (C.mg▸N.p) (pS ha.p rD hs) hs)⟩
end
section
variable(hi:Gz X "isinstance")(hg:Gz X x)(hs:ar [e,.Name x p2] X.env=[(false,eval e X.env),(false,eval (.Name x p2) X.env)])(hs':S1 X (.Name x p2))
include hi hg hs hs'
theorem Mb [Q:KtC x T][C:Cz X B k][N:Nb B "isinstance"][N':Nb B x](ha:ZE X B e f)(hd:Nz x):ZE X B (.Call (.Name "isinstance" p) [e,.Name x p2] [] pos) (c1 (qB (pT T)) f):=by
 simp only[aA,bF,c7]at hd;refine⟨CB (c:=.b T) (tW (ze (.b T) (Q.p.1 X B.G) Fv C.K) hi (C.mg▸N.p) kn (qY ha.p (qY (GR (v:=.ty T) hg (C.mg▸N'.p) Q.p.2 rfl hd.1 hd.2) tV ?_) ?_) (by decide) (by decide) ?_ ?_)⟩
 ·exact hs'
 ·rw[hs,hs']
 ·rw[hs,hs']
 ·rw[hs'];rfl
theorem Mc{t:Ty->Option Bool}[Q:Ic B x t][C:Cz X B k][N:Nb B "isinstance"](ha:ZE X B e f)(hd:Dz x):ZE X B (.Call (.Name "isinstance" p) [e,.Name x p2] [] pos) (c1 (qB t) f):=by
 obtain⟨c,q1,q2⟩:=Q.p;refine⟨CB (c:=.c c) (tW (BM q1 C.K) hi (C.mg▸N.p) kn (qY ha.p (qY (B7 (v:=.ref (B.G.ca c)) hg (C.mg▸q2) rfl hd) tV ?_) ?_) (by decide) (by decide) ?_ ?_)⟩
 ·exact hs'
 ·rw[hs,hs']
 ·rw[hs,hs']
 ·rw[hs'];rfl
end
section
variable(hb:Az X o m)(hl:Ez apos pos)(hs:S1 X e)
include hb hl hs
theorem bmI{r:V->List V->Hp->VK->Prop}{to:TE}{t:TA}[C:Cz X B k](pa:i4 T)(slot:Slot T m id)(hty:typeOf (.builtin id)=pure (.type "method_descriptor"))(hm:MtR X id r)(ho:PE X o to)(ha:PA X [e] t):PE X (.Call (.Attribute o m apos) [e] [] pos) (tBM B.G.K T r to t):=
 EV B.G.K pa slot hty hm ho ha hb (by rw[hs];rfl) hl hs rfl C.K
end
section
variable(h:sees X i x=true)(hb:Az X (.Name x p) m)(hl:Ez apos pos)(hs:S1 X e)
include h hb hl hs
theorem Md [C:Cz X B k](hm:m="append")(ha:ZE X B e f):ZE X B (.Call (.Attribute (.Name x p) m apos) [e] [] pos) (v8 i f):=by subst hm;exact⟨DZ (bmI hb hl hs gd ib jR vV (pvI h) (pS ha.p rD hs))⟩
theorem Me [C:Cz X B k](hm:m="extend")(ha:ZE X B e f):ZE X B (.Call (.Attribute (.Name x p) m apos) [e] [] pos) (uf i f):=by subst hm;exact⟨BO (bmI hb hl hs gd gb jS (C.K▸BN) (pvI h) (qY ha.p tV hs))⟩
end
theorem Mg{xs:List Str}[C:Cz X B k][Q:Af B c0 xs](hx:xs.contains m=true)(h:sees X i x=true)(hv:ZE X B e f)(hs:Wz X e (.Attribute (.Name x p) m apos) pos):ZS X B (.Assign [.Attribute (.Name x p) m apos] e pos) (oA c0 i m f):=⟨HW (Kw (pvI h) hv.p hs) (by obtain⟨i,_,e⟩:=hU (jx.mp hx);exact C.K▸Q.p.at i (bo.mpr ⟨_,e⟩))⟩
theorem Mh [C:Cz X B k](h:sees X i x=true)(hk:ZE X B e' f')(hv:ZE X B e f)(hs:Wz X e (.Subscript (.Name x p) e' apos) pos):ZS X B (.Assign [.Subscript (.Name x p) e' apos] e pos) (qU i f' f):=⟨FI (Hl (Jx C.r) (pvI h) hk.p hv.p hs)⟩
theorem Mi{n:Nat}[Q:Ij B n](h:ZE X B e f):ZE X B e (uJ n f):=⟨IG Q.p h.p⟩
theorem Mj{lo hi:Option Expr}{fl fh:FO}[C:Cz X B k](he:ZE X B e f)(hl:ZO X B lo fl)(hh:ZO X B hi fh):ZN X B (.Subscript e (.Slice lo hi none p) pos) (tm f fl fh):=⟨BK (EI (Pc C.K) he.p hl.p hh.p)⟩
theorem Ml [C:Cz X B k](h:ZE X B e f):ZI X B tg e (iL f):=⟨AQ (AG B.G.K h.p C.K)⟩
theorem Mn [C:Cz X B k](h:ZE X B e f):ZI X B tg e (iT f):=⟨Ib (Ht B.G.K h.p C.K)⟩
theorem Mo(h:ZE X B e f):ZI X B tg e (iD f):=⟨FQ (IE h.p)⟩
theorem Mp(h:ZE X B e f):ZI X B tg e (iS f):=⟨Iy (KI h.p)⟩
section
variable{gg:FG}{gs:List D->List Sl->Option (List Sl)}
theorem IS:ZH X B [] n y9:=⟨HH GT⟩
theorem IT(h1:ZG X B e n gg)(h2:ZH X B es n gs)(hs:(bU (e::es) X.env).map (·.2)=assign e X.env::(bU es X.env).map (·.2)):ZH X B (e::es) n (rP gg gs):=⟨E6 (Et h1.p h2.p hs)⟩
theorem IU{n' k':Nat}[C:Cz X B k](h:ZH X B es n gs)(hn:(bU es X.env).length=n')(ht:(bU es X.env).findIdx? (·.1)=none):ZG X B (.Tuple es k' pos) n (gT gs n'):=⟨HI (Hu B.G.K C.c h.p hn ht C.K)⟩
end
def tgN:Expr->List Str
 |.Name x _=>[x]
 |.Tuple es _ _=>es.filterMap λe=>match e with|.Name x _=>some x|_=>none
 |_=>[]
def cpN(X:Cx)(tg:Expr)(cap:List Nat):List Str:=tgN tg++cap.map λj=>X.N.getD j ""
instance inCz [C:Cz X B k]{N':List Str}{sc:bW}{cl:List (Str×Addr)}{A:Addr}{fp:List Addr}{s:ae}{H:Hp}:Cz (ph X N' sc cl A fp s H) B k:=⟨C.P,C.w,C.K,C.mg,C.b,C.c,C.r⟩
def Mq(X:Cx)(N':List Str)(sc:bW)(n:Nat)(cap:List Nat):Bool:=decide cap.Nodup&&decide (sc.kind=.function)&&(sc.names.all λy=>y.2 != .cell)&&(sc.names.all λy=>y.2 != .local||sc.names.lookup y.1==some .local)&&(sc.names.all λy=>y.2 != .free||(X.env.kindOf y.1==some .cell||X.env.kindOf y.1==some .free))&&decide (N'.length=n+cap.length)&&decide ((N'.drop n).map some=cap.map λj=>X.N[j]?)&&((N'.drop n).all λx=>sc.names.lookup x==some .free)
section
variable{sc:bW}{cap:List Nat}{ifs:List Expr}{gg:FG}{ft:FT}{s:FA}
 (h0:Mq X (cpN X tg cap) sc n cap=true) (hs:Fz X it) (hi:ZI X B tg it s)
 (h1:∀(cl:List (Str×Addr)) (A:Addr) (fp:List Addr) (s:ae) (H:Hp),ZG (ph X (cpN X tg cap) sc cl A fp s H) B tg n gg)
 (h2:∀(cl:List (Str×Addr)) (A:Addr) (fp:List Addr) (s:ae) (H:Hp),ZF (ph X (cpN X tg cap) sc cl A fp s H) B ifs ft)
 (h3:∀(cl:List (Str×Addr)) (A:Addr) (fp:List Addr) (s:ae) (H:Hp),ZE (ph X (cpN X tg cap) sc cl A fp s H) B e f)
include h0 hs hi h1 h2 h3
theorem Mr [C:Cz X B k]:ZN X B (.ListComp e [⟨tg,it,ifs,0⟩] sc pos) (nZ n cap s gg ft f):=by unfold Mq at h0;simp only[aA,bF]at h0;obtain⟨⟨⟨⟨⟨⟨⟨a1,a2⟩,a3⟩,a4⟩,a5⟩,a6⟩,a7⟩,a8⟩:=h0;exact⟨Fg a1 (Hr (N':=cpN X tg cap) C.c hi.p (λcl A fp s H=>⟨(h1 cl A fp s H).p,(h2 cl A fp s H).p,(h3 cl A fp s H).p⟩) a2 a3 a4 a5 a6 a7 a8 λx=>congrFun hs x)⟩
theorem cpW [C:Cz X B k](h:sets X i x=true)(hw:b9 (.ListComp e [⟨tg,it,ifs,0⟩] sc pos) (some (.Name x p)) apos.line X.env=pure true):PS X (.Assign [.Name x p] (.ListComp e [⟨tg,it,ifs,0⟩] sc pos) apos) (uD (wD (tFI B.G s) (tFG B.G n gg) (tFT B.G ft) (tF B.G f) n cap) (r9 i))/\cap.Nodup:=by unfold Mq at h0;simp only[aA,bF]at h0;obtain⟨⟨⟨⟨⟨⟨⟨a1,a2⟩,a3⟩,a4⟩,a5⟩,a6⟩,a7⟩,a8⟩:=h0;obtain⟨b1,b2,b3,b4⟩:=Aa h;exact⟨Ir (N':=cpN X tg cap) C.c b1 b2 b3 hi.p (λcl A fp s H=>⟨(h1 cl A fp s H).p,(h2 cl A fp s H).p,(h3 cl A fp s H).p⟩) a2 a3 a4 a5 a6 a7 a8 (λx=>congrFun hs x) hw b4,a1⟩
theorem Ms [C:Cz X B k](h:sets X i x=true)(hw:b9 (.ListComp e [⟨tg,it,ifs,0⟩] sc pos) (some (.Name x p)) apos.line X.env=pure true):ZS X B (.Assign [.Name x p] (.ListComp e [⟨tg,it,ifs,0⟩] sc pos) apos) (oJ i (cL (nZ n cap s gg ft f))):=by have z:=cpW (k:=k) h0 hs hi h1 h2 h3 h hw;exact⟨Fy z.2 z.1⟩
theorem Mt [C:Cz X B k](h:sets X i x=true)(hw:b9 (.ListComp e [⟨tg,it,ifs,0⟩] sc pos) (some (.Name x p)) apos.line X.env=pure true):ZS X B (.Assign [.Name x p] (.ListComp e [⟨tg,it,ifs,0⟩] sc pos) apos) (qN i (nZ n cap s gg ft f)):=by have z:=cpW (k:=k) h0 hs hi h1 h2 h3 h hw;exact⟨Ea z.2 z.1⟩
end
section
variable{st:Stmt}{sts:List Stmt}{fs fs':FS}{ft:FT}{a':FA}{z1:Nat}
theorem Oq(ha:ZE X B e f)(hr:ZA X B es a)(hs:Sz X e es):ZA X B (e::es) (aCons f a):=⟨pS ha.p hr.p hs⟩
theorem Os:ZA X B [] ox:=⟨rD⟩
theorem Mu(h:sees X i x=true):ZV X (.Name x p) i:=⟨pvI h⟩
theorem Mv(h:ZN X B e a):ZE X B e (cL a):=⟨KZ h.p⟩
theorem Ot{y:Str}:ZE X B (.Constant (.str y) j pos) (cC (.str y)):=⟨KO⟩
theorem Ou{y:Int}:ZE X B (.Constant (.int y) j pos) (cC (.int y)):=⟨KN⟩
theorem Ov{y:Bool}:ZE X B (.Constant (.bool y) j pos) (cC (.bl y)):=⟨NV⟩
theorem Ow:ZE X B (.Constant .none j pos) (cC .non):=⟨KP⟩
theorem CP(h1:ZS X B st fs)(h2:ZB X B sts fs'):ZB X B (st::sts) (nP fs fs'):=⟨E1 h1.p h2.p⟩
theorem Ox(h1:ZS X B st fs):ZB X B [st] fs:=⟨HF h1.p⟩
theorem Oy:ZB X B [] pG:=⟨HE⟩
theorem Mw(h:ZE X B e f):ZS X B (.Return (some e) pos) (oZ f):=⟨HG h.p⟩
theorem Mx(h:ZN X B e a):ZS X B (.Return (some e) pos) (pX a):=⟨E2 h.p⟩
theorem My(h:ZE X B e f)(hs:b9 e none pos.line X.env=pure false):ZS X B (.Expr e pos) (qy f):=⟨E3 h.p hs⟩
theorem Mz(h:ZT X B e ft)(h1:ZB X B sts fs){sts':List Stmt}(h2:ZB X B sts' fs'):ZS X B (.If e sts sts' pos) (sIf ft fs fs'):=⟨K0 h.p h1.p h2.p⟩
theorem MA:ZE X B e z8:=⟨FJ⟩
theorem MB(h:ZA X B es a):ZN X B (.List es pos) (n6 a):=⟨HC h.p⟩
theorem MC(h:ZA X B es a):ZE X B (.Tuple es z1 pos) (oP a):=⟨KY h.p⟩
theorem ME(ha:ZE X B e f)(hb:ZE X B e' f'):ZN X B (.BinOp e .Add e' pos) (o4 f f'):=⟨Ii ha.p hb.p⟩
theorem MF [C:Cz X B k](ha:ZE X B e f)(hb:ZE X B e' f'):ZE X B (.BinOp e .Add e' pos) (wH f f'):=⟨IA ha.p hb.p C.K⟩
theorem MG(ha:ZE X B e f)(hb:ZE X B (.BoolOp .And (e'::es) pos) f'):ZE X B (.BoolOp .And (e::e'::es) pos) (qt f f'):=⟨KU ha.p hb.p⟩
theorem MH(ha:ZE X B e f)(hb:ZE X B (.BoolOp .Or (e'::es) pos) f'):ZE X B (.BoolOp .Or (e::e'::es) pos) (cOr f f'):=⟨NZ ha.p hb.p⟩
theorem MI{op}(ha:ZE X B e f):ZE X B (.BoolOp op [e] pos) f:=⟨KR ha.p⟩
theorem MJ(ha:ZE X B e f):ZE X B (.UnaryOp .Not e pos) (vY f):=⟨KW ha.p⟩
theorem MK(ha:ZT X B e ft):ZT X B (.UnaryOp .Not e pos) (qG ft):=⟨HA ha.p⟩
theorem ML(h:ZT X B o ft)(ha:ZE X B e f)(hb:ZE X B e' f'):ZE X B (.IfExp o e e' pos) (cIf ft f f'):=⟨N0 h.p ha.p hb.p⟩
theorem Oz(h:ZT X B e ft):ZF X B [e] ft:=⟨Ho h.p⟩
theorem OA:ZF X B [] oQ:=⟨Fh⟩
theorem MM(h:ZE X B e f):ZE X B e (sm f):=⟨Lm h.p⟩
theorem MN(h:ZT X B e ft):ZT X B e (tL ft):=⟨Ik h.p⟩
theorem MO(h:ZE X B e f):ZO X B (some e) (oAt f):=⟨Ls h.p⟩
theorem MP:ZO X B none oNo:=⟨Lr⟩
theorem MQ(ha:ZT X B e ft)(hb:ZW X B (.BoolOp .Or (e'::es) pos) fu):ZW X B (.BoolOp .Or (e::e'::es) pos) (xi ft fu):=⟨EX ha.p hb.p⟩
theorem MR(h:ZT X B e ft):ZW X B (.BoolOp .Or [e] pos) ft:=⟨HB h.p⟩
end
theorem MS{body:List Stmt}{s:FA}{gg:FG}{b:FS}[C:Cz X B k](hp:PassesOwn (model X.prog X.w) X.A X.env X.xe)(hn:X.N.length=n)(hi:ZI X B tg it s)(hg:ZG X B tg n gg)(hb:ZB X B body b)(hs:Fz X it):ZS X B (.For tg it body [] pos) (tU s gg b):=⟨Ie (Ex hp C.c hi.p hg.p hb.p λx=>congrFun hs x)⟩
end
end L4
namespace L4
open PySem PySem.Spec PyProof.Rows L2 L3
open PySem.W (fnOf)
def nmO(st:Stmt):List Str:=(nV st).names.filterMap λy=>match y.2 with|.local=>some y.1|.cell=>some y.1|_=>none
def psO(st:Stmt):List Str:=(qE st).args.map (·.arg)
def okO(N ps:List Str)(st:Stmt)(np n:Nat):Bool:=decide ((nV st).kind=.function)&&(nV st).isCoroutine==false&&(nV st).isGenerator==false&&decide N.Nodup&&decide (N.take ps.length=ps)&&(ps.all λx=>match (nV st).names.lookup x with|some .local=>true|some .cell=>true|_=>false)&&((nV st).names.all λy=>y.2 != .free)&&decide (ps.length=np)&&decide (N.length=n)
theorem okk{N ps:List Str}{st:Stmt}{np n:Nat}(h:okO N ps st np n=true):pJ N ps (nV st)/\ps.length=np/\N.length=n:=by
 unfold okO at h;simp only[aA,bF,beq_iff_eq]at h;obtain⟨⟨⟨⟨⟨⟨⟨⟨h1,h2⟩,h3⟩,h4⟩,h5⟩,h6⟩,h7⟩,h8⟩,h9⟩:=h;refine⟨⟨h1,h2,h3,h4,h5,λx hx=>?_,λy hy e=>?_⟩,h8,h9⟩
 ·have z:=aw.mp h6 x hx;split at z
  ·rename_i e;exact .inl e
  ·rename_i e;exact .inr e
  ·cases z
 ·have z:=aw.mp h7 y hy;rw[e]at z;exact ak z (by decide)
section
variable{B:Bz}[Y:Yb B]{x m qual:Str}{st s0:Stmt}{l:List Stmt}{k c np n:Nat}{b:FS}{p:Str}{ps xs:List Str}{N:List Str}
abbrev Bdz(B:Bz)(N:List Str)(qual:Str)(st:Stmt)(l:List Stmt)(k:Nat)(b:FS):Prop:=∀{f:Addr} {cdv:aa} {A:ay} {outer:List Env} {s:ae} {H:Hp} {E:XK} [Cz (ue B.P B.w B.G.K B.mg B.base N qual st f cdv A outer s H E) B k],ZB (ue B.P B.w B.G.K B.mg B.base N qual st f cdv A outer s H E) B l b
omit Y in
theorem Bdz.ok(h:Bdz B N qual st l k b)(hl:oi st=l):Bdy B.P B.w B.G.K B.mg B.base N qual st k (tFS B.G b):=λf cdv A outer s H E hr=>by subst hl;exact(@h f cdv A outer s H E ⟨rfl,rfl,rfl,rfl,rfl,rfl,hr⟩).p
theorem gF4{g:List D->Option D}(hg:g=fnD np n b)(q:GD B.G.K x st)(hl:oi st=s0::l)(body:Bdz B (nmO st) x st (s0::l) k b)(S:okO (nmO st) (psO st) st np n=true:=by kernel_rfl)(bd:Bds x x st (psO st):=by (repeat intro _);rfl):Df B (k+1) x (spF B.G g):=
 ⟨_,gF hg Y.y q (okk S).1 (body.ok hl) (okk S).2.1 (okk S).2.2 bd⟩
theorem gF5(N:List Str){g:List D->Option D}(hg:g=fnD np n b)(q:GD B.G.K x st)(hl:oi st=s0::l)(body:Bdz B N x st (s0::l) k b)(S:okO N (psO st) st np n=true:=by kernel_rfl)(bd:Bds x x st (psO st):=by (repeat intro _);rfl):Df B (k+1) x (spF B.G g):=
 ⟨_,gF hg Y.y q (okk S).1 (body.ok hl) (okk S).2.1 (okk S).2.2 bd⟩
theorem gN4{g:List D->Option (List D)}(hg:g=fnN np n b)(q:GD B.G.K x st)(hl:oi st=s0::l)(body:Bdz B (nmO st) x st (s0::l) k b)(S:okO (nmO st) (psO st) st np n=true:=by kernel_rfl)(bd:Bds x x st (psO st):=by (repeat intro _);rfl):Df B (k+1) x (spN B.G g):=
 ⟨_,gN' hg Y.y q (okk S).1 (body.ok hl) (okk S).2.1 (okk S).2.2 bd⟩
theorem gM4{g:List D->List D->Option (D×List D)}(hg:g=fnM np n b)(q:GD B.G.K x st)(hl:oi st=s0::l)(hp:psO st=p::ps)(body:Bdz B (nmO st) x st (s0::l) k b)(S:okO (nmO st) (p::ps) st (np+1) n=true:=by kernel_rfl)(bd:Bds x x st (p::ps):=by (repeat intro _);rfl):Df B (k+1) x (spM B.G g):=
 ⟨_,gM hg Y.y q (okk S).1 (body.ok hl) (eS (okk S).2.1) (okk S).2.2 bd⟩
theorem hF4{g:List D->Option D}(C:CF B.G.K (B.G.ca c) xs)(hg:g=fnD np n b)(q:GM B.G.K (B.G.ca c) m qual st)(hl:oi st=s0::l)(body:Bdz B (nmO st) qual st (s0::l) k b)(S:okO (nmO st) (psO st) st np n=true:=by kernel_rfl)(bd:Bds m qual st (psO st):=by (repeat intro _);rfl):wb B.G B.P B.w B.mg B.base (k+1) m c g:=by obtain⟨f,fd,a,i,F⟩:=q;exact⟨f,fd,_,C.ci.cl,⟨a,i,F.kp⟩,bd.ok F,Ft hg (okk S).2.1 (okk S).2.2 F (okk S).1 (body.ok hl f)⟩
theorem gI4{g:List D->Option (List Str×List D)}(C:CF B.G.K (B.G.ca c) xs)(a:fo B.G.K aG x=some (some (.ref (B.G.ca c))))(hg:g=fnI c np n b)(q:GM B.G.K (B.G.ca c) "__init__" qual st)(hl:oi st=s0::l)(hp:psO st=p::ps)(body:Bdz B (nmO st) qual st (s0::l) k b)(S:okO (nmO st) (p::ps) st (np+1) n=true:=by kernel_rfl)(bd:Bds "__init__" qual st (p::ps):=by (repeat intro _);rfl):Kf B (k+1) x c g []:=
 ⟨⟨_,gI hg Y.y C a q (okk S).1 (body.ok hl) (eS (okk S).2.1) (okk S).2.2 bd⟩,rfl⟩
theorem gJ4{g:List D->Option (List Str×List D)}{dds:List D}(C:CF B.G.K (B.G.ca c) xs)(a:fo B.G.K aG x=some (some (.ref (B.G.ca c))))(hg:g=fnI c np n b)(q:GJ B.G.K (B.G.ca c) qual st (dds.map vD))(hl:oi st=s0::l)(hp:psO st=p::ps)(body:Bdz B (nmO st) qual st (s0::l) k b)(j:Nat)(S:okO (nmO st) (p::ps) st (np+1) n=true:=by kernel_rfl)(hf:dds.all pZ=true:=by rfl)
  (bd:BV (dds.map vD).length λdl=>BV ((p::ps).length - ((dds.map vD).drop j).length) λus=>∀(T:Addr) (kV doc pm:aa) (an:Option Addr) (cdv ct:aa),∃k,bindArgs (fnOf "__init__" qual (qE st) (oi st) (nV st) (.ref T) kV doc pm an cdv ct) ⟨us,[]⟩=seqItems? (.ref T)>>=k/\k (some dl.toArray)=pure ((p::ps).zip (us++dl.drop j)):=by (repeat intro _);exact⟨_,rfl,rfl⟩):Kf B (k+1) x c g (dds.drop j):=
 ⟨⟨_,by rw[fN];exact gJ hg Y.y C a q (okk S).1 (body.ok hl) j (eS (okk S).2.1) (okk S).2.2 bd⟩,by
  rw[aw]at hf ⊢;exact λd h=>hf d (fA h)⟩
theorem F7(n:Nat)(ca:Nat->Addr):∀k,k<n->((aO n).map ca).getD k 0=ca k:=λk h=>by rw[fW,bb,hJ h];rfl
theorem Pe{n:Nat}{ca:Nat->Addr}(h:decide ((aO n).map ca).Nodup=true):∀j k,j<n->k<n->ca j=ca k->j=k:=λj k hj hk e=>by rw[<-F7 n ca j hj,<- F7 n ca k hk]at e;exact LF (bG h) (by simpa using hj) (by simpa using hk) e
def BW:Nat->(Nat->Prop)->Prop
 |0,_=>True
 |n+1,Q=>Q 0/\BW n λk=>Q (k+1)
theorem BW.at:∀{n:Nat} {Q:Nat->Prop},BW n Q->∀k,k<n->Q k
 |_+1,_,h,0,_=>h.1
 |_+1,_,h,k+1,hk=>BW.at (Q:=λk=>_) h.2 k (Nat.lt_of_succ_lt_succ hk)
end
section
variable{X:Cx}{B:Bz}{k j i n:Nat}{x y:Str}{e e' tg:Expr}{es:List Expr}{p p2 p3 pos apos:Pos}{f f':FE}{a:FA}{st:Stmt}{sts:List Stmt}{fs fs':FS}{ft:FT}
theorem MU{gg:FG}(hn:X.N.length=n)(he:ZE X B e f)(hg:ZG X B tg n gg)(hs:swapsWithSole [tg] e pos.line X.env=pure false)(hw:swappedStores [tg] e X.env=pure none)(h1:(bU [tg] X.env).map (·.2)=[assign tg X.env]):ZS X B (.Assign [tg] e pos) (yN f gg):=⟨HJ (Bm he.p hg.p hs hw h1)⟩
theorem MV [C:Cz X B k][N:Nb B "int"](hg:Gz X "int")(hs:S1 X e)(ha:ZE X B e f):ZE X B (.Call (.Name "int" p) [e] [] pos) (c1 Li f):=⟨JB Lj (ctI hg (by decide) hs DG lu (pS ha.p rD hs))⟩
end
end L4
namespace L4
open PySem PySem.Spec PyProof.Rows L2 L3
theorem JG{α:Type}[DecidableEq α]:∀{l L:List α},l.Nodup->(∀x∈l,x∈L)->l.length<=L.length
 |[],L,_,_=>b8 _
 |a::l,L,nd,h=>by have h1:=h a aH;have nd':=dY.mp nd;have:=JG (l:=l) (L:=L.erase a) nd'.2 λx hx=>(List.mem_erase_of_ne (λe:x=a=>nd'.1 (by rw[<-e];exact hx))).mpr (h x (aM _ hx));rw[List.length_erase_of_mem h1]at this;have:=js h1;rw[aE];omega
structure Tb(t:bj)(m n:Nat):Prop where
 mask:t.mask=m
 dm:t.dummies=#[]
 pl:t.place.size=n
variable{q:Nat}
section
variable{t:bj}{m n:Nat}
theorem Tb.slot(T:Tb t m n)(j:Nat):(∃i,t.slot j=.live i/\t.place[i]?=some j)\/t.slot j=.empty:=by
 unfold kJ;by_cases h:(t.place[bq t.place j]?==some j)=true
 ·left;simp only[h,if_true];exact⟨_,rfl,eW h⟩
 ·right;rw[ka]at h;rw[T.dm];simp[h,kW]
theorem Tb.free(T:Tb t m n)(h:n<=m):∃r,r<=m/\t.slot r=.empty:=by
 apply jd;intro no;have:(aO (m+1)).length<=t.place.toList.length:=JG kc λr hr=>by
  rcases T.slot r with ⟨i,_,e⟩|e
  ·rw[<-bM]at e;exact bw e
  ·exact ak ⟨r,by have:=bA.mp hr;omega,e⟩ no
 rw[c8,bR,T.pl]at this;omega
def Emp(t:bj):Nat->cj->Prop
 |0,_=>False
 |f+1,p=>t.slot p.j=.empty\/Emp t f (t.advance p)
theorem Emp.mono:∀{f f':Nat} {p:cj},Emp t f p->f<=f'->Emp t f' p
 |0,_,_,h,_=>h.elim
 |f+1,0,_,_,h=>ak h (by omega)
 |f+1,f'+1,p,h,hl=>h.imp id λh=>h.mono (by omega)
def rs(m i q:Nat):cj:=⟨i,bP m i - i,i,q,none⟩
theorem MW(m i:Nat):bP m i - i<=9:=by unfold bP;split<;>omega
theorem Emp.run(T:Tb t m n){f i:Nat}(h:Emp t f (rs m ((i * 5+1+q / 32) % (m+1)) (q / 32))):∀(k j:Nat),Emp t (f+k+1) ⟨j,k,i,q,none⟩
 |0,j=>.inr (by
   have e:t.advance ⟨j,0,i,q,none⟩=rs m ((i * 5+1+q / 32) % (m+1)) (q / 32):=by unfold eE kK;rw[T.mask];rfl
   rw[e];exact h)
 |k+1,j=>.inr (by
   have e:t.advance ⟨j,k+1,i,q,none⟩=⟨j+1,k,i,q,none⟩:=by unfold eE;rw[ag (df k)];rfl
   rw[e];exact Emp.run T h k (j+1))
theorem Emp.leap(T:Tb t m n){f i:Nat}(h:Emp t f (rs m ((i * 5+1+q / 32) % (m+1)) (q / 32))):Emp t (f+10) (rs m i q):=
 (Emp.run T h (bP m i - i) i).mono (by have:=MW m i;omega)
def orb(m:Nat):Nat->Nat->List Nat
 |0,_=>[]
 |k+1,i=>i::orb m k ((i * 5+1) % (m+1))
theorem Emp.orb(T:Tb t m n){r:Nat}(hr:t.slot r=.empty):∀(k i:Nat),r∈orb m k i->Emp t (10 * k) (rs m i 0)
 |0,i,h=>by cases h
 |k+1,i,h=>by
  rcases aW.mp h with e|h
  ·exact Emp.mono (f:=1) (.inl (by rw[e]at hr;exact hr)) (by omega)
  ·have:=Emp.leap T (q:=0) (i:=i) (Emp.orb T hr k _ h);exact this.mono (by omega)
theorem Ab{p:cj}(h:p.dummy=none):(t.advance p).dummy=none:=by unfold eE;split<;>exact h
end
theorem MX{t:bj}{F F':Nat->Int}{h:Int}(e:∀i,F i=F' i)(g:Nat)(p:cj):c9 t F h g p=c9 t F' h g p:=by obtain rfl:F=F':=funext e;rfl
variable{Q:Bool->ae->Prop}
section
variable{prog:aq}{w:ao}{A:ay}{E:aa->ae->Prop}{s:ae}
theorem F8{a2:Addr}{k2:List Key}{l:List aa}(h1:∀v∈l,∃k a,v=.ref a/\TK prog w s.heap k a)(h2:TK prog w s.heap k2 a2)(h:Q false s):af (model prog w) A (searchCouldBeSeen (.ref a2) l) Q E s:=by
 unfold searchCouldBeSeen;refine au ?_;show af _ _ (forIn l _ _) _ _ s;refine iw _ (λrest r s'=>r=(none,())/\s'=s/\∀v∈rest,∃k a,v=.ref a/\TK prog w s.heap k a) _ ?_ ?_ _ _ ⟨rfl,rfl,h1⟩
 ·rintro v rest r s' ⟨rfl,rfl,hall⟩;obtain⟨k,a1,rfl,h1⟩:=hall v aH;have go:∀v∈rest,∃k a,v=Value.ref a/\TK prog w s'.heap k a:=λu hu'=>hall u (aM _ hu');dsimp only;split
  ·exact aD ⟨rfl,rfl,go⟩
  ·refine au (jy h2 ?_);refine au (jy h1 ?_);refine au (CH h2 ?_);refine au (CH h1 ?_);exact aD ⟨rfl,rfl,go⟩
 ·rintro r s' ⟨rfl,rfl,_⟩;exact aD h
end
def Nn(ow:Array (Option Nat))(j:Nat):Prop:=(ow.getD j (some 0)).isNone=true
section
variable{ow:Array (Option Nat)}
def lv(ow:Array (Option Nat)):List (Nat×Nat):=(aO 32).filterMap λj=>(ow.getD j none).map (j,·)
end
def Cz2(m n:Nat):Prop:=(m=7/\n<=4)\/(m=31/\n<=18)\/(m=127/\19<=n/\n<=63)
section
variable{prog:aq}{w:ao}{A:ay}{E:aa->ae->Prop}{s:ae}
theorem F9{x:Str}{ks:List Key}{a:Addr}(hk:TK prog w s.heap (Sum.inr x::ks) a)(h:Q false s):af (model prog w) A (hashByValue 8 (.ref a)) Q E s:=by
 have hT:=hk.typeIs;obtain⟨o,items,n,ho,_,hd,hi⟩:=hk;unfold hashByValue;refine au (kg hT F.slot_tuple_hash.lookup ?_);show af _ _ (seqItems? (.ref a)>>=_) _ _ s;refine au (ku ho hd ?_);refine au ?_;show af _ _ (forIn items _ _) _ _ s;rw[<-jQ];generalize items.toList=l at hi ⊢;cases hi with
 |@cons _ v _ vs h1 h2=>
  obtain⟨t,rfl⟩:∃t,v=.str x t:=CL h1;refine iw _ (λrest r s'=>s'=s/\∃u,rest=.str x t::u) _ ?_ ?_ _ _ ⟨rfl,vs,rfl⟩
  ·rintro v rest r s' ⟨rfl,u,e⟩;cases e;refine au (m:=hashByValue 7 (.str x t)) (aD ?_);exact aD (aD h)
  ·rintro r s' ⟨rfl,u,e⟩;cases e
end
structure yR(h:Heap)(S:Addr)(L:List (List Key×Addr))(led:Bool)(n:Nat)(o:Obj)(es:Array (Int×aa))(ep:Nat)(t:bj):Prop where
 at_:h.get? S=some o
 ex:o.ExactSet
 d:o.data=.set es ep t
 c:∃m,Tb t m n/\Cz2 m n
 led:t.led=led
 pl:0<n->t.plain=false
 p:(es.toList.map dj).Perm (L.map λq=>Value.ref q.2)
variable{led:Bool}{o:Obj}{ep:Nat}
theorem yR.sz{h:Heap}{S:Addr}{L:List (List Key×Addr)}{n:Nat}{es:Array (Int×aa)}{t:bj}(x:yR h S L led n o es ep t):es.size=L.length:=by have:=x.p.length_eq;rw[ai,ai,bR]at this;exact this
theorem yR.fits{h:Heap}{S:Addr}{L:List (List Key×Addr)}{n:Nat}{es:Array (Int×aa)}{t:bj}(x:yR h S L led n o es ep t)(hl:L.length=n):t.fits es.size=true:=by obtain⟨m,T,c⟩:=x.c;unfold fO iH;rw[x.sz,hl,T.pl,T.dm,T.mask,aA];exact⟨by simp,bc (by unfold Cz2 at c;simp;omega)⟩
end L4
namespace L4
open PySem PySem.Spec PySem.Calls PyProof.Rows PySem.W L2 L3
section
variable{prog:aq}{w:ao}{A:ay}{E:aa->ae->Prop}{s:ae}
abbrev TkS(k:List Str):List Key:=k.map Sum.inr
end
section
variable{X:Cx}{G:Bg}{H:Hp}{pins:List (Addr×Obj)}{σ:St}{s:ae}
theorem CQ:∀{ds:List D} {ks:List (List Str)} {xs:List V},nM G H ds xs->zj ds=some ks->∃L:List (List Str×Addr),xs=L.map (λq=>V.ref q.2)/\ks=L.map bC/\∀q∈L,∃p r,q.1=[p,r]/\SqT G.K H q.2 [.str p,.str r]
 |[],ks,xs,r,e=>by cases e;unfold nM at r;subst r;exact⟨[],rfl,rfl,λq hq=>by cases hq⟩
 |d::ds,ks,xs,r,e=>by
  unfold zj at e;cases e1:key2 d with
  |none=>rw[e1]at e;cases e
  |some k=>
   cases e2:zj ds with
   |none=>rw[e1,e2]at e;cases e
   |some ks'=>
    rw[e1,e2]at e;cases e;unfold nM at r;obtain⟨v,r',rfl,q1,q2⟩:=r;obtain⟨L,rfl,rfl,h3⟩:=CQ q2 e2;obtain⟨a,p,q,rfl,rfl,h1⟩:=F6 q1 e1;refine⟨([p,q],a)::L,rfl,rfl,λz hz=>?_⟩;rcases aW.mp hz with rfl|hz
    ·exact⟨p,q,rfl,h1⟩
    ·exact h3 z hz
end
noncomputable abbrev cS(s:Str):FE:=cC (.str s)
noncomputable abbrev a1(e:FE):FA:=aCons e ox
end L4
namespace L4
open PySem PySem.Spec PyProof.Rows L2 L3
mutual
def yh:D->Bool
 |.non=>true
 |.bl _=>true
 |.int _=>true
 |.str _=>true
 |.tup ds=>yi ds
 |.lst ds=>yi ds
 |_=>false
def yi:List D->Bool
 |[]=>true
 |d::ds=>yh d&&yi ds
end
mutual
theorem Rep.but{G:Bg}{H H1:Hp}(e:∀b o,H b=some o->(∀u kvs,o≠HO.frz u (.dK kvs))->H1 b=some o):∀(d:D) (v:V),yh d=true->Rep G H d v->Rep G H1 d v
 |.non,v,_,h=>by unfold Rep at h ⊢;exact h
 |.bl b,v,_,h=>by unfold Rep at h ⊢;exact h
 |.int i,v,_,h=>by unfold Rep at h ⊢;exact h
 |.str x,v,_,h=>by unfold Rep at h ⊢;exact h
 |.tup ds,v,n,h=>by
  unfold Rep at h ⊢;unfold yh at n;obtain⟨a,xs,rfl,h1,h2⟩:=h;refine⟨a,xs,rfl,?_,nM.but e ds xs n h2⟩;rcases h1 with (h|⟨o,h⟩)|h
  ·exact .inl (.inl (e _ _ h λ_ _ z=>nomatch z))
  ·exact .inl (.inr ⟨o,e _ _ h λ_ _ z=>nomatch z⟩)
  ·exact .inr h
 |.lst ds,v,n,h=>by unfold Rep at h ⊢;unfold yh at n;obtain⟨a,xs,rfl,h1,h2⟩:=h;exact⟨a,xs,rfl,e _ _ h1 (λ_ _ z=>nomatch z),nM.but e ds xs n h2⟩
 |.fzl ds,v,n,h=>by unfold yh at n;cases n
 |.obj c ns ds,v,n,h=>by unfold yh at n;cases n
 |.dic ks ds,v,n,h=>by unfold yh at n;cases n
theorem nM.but{G:Bg}{H H1:Hp}(e:∀b o,H b=some o->(∀u kvs,o≠HO.frz u (.dK kvs))->H1 b=some o):∀(ds:List D) (xs:List V),yi ds=true->nM G H ds xs->nM G H1 ds xs
 |[],xs,_,h=>by unfold nM at h ⊢;exact h
 |d::ds,xs,n,h=>by unfold nM at h ⊢;unfold yi at n;rw[aA]at n;obtain⟨v,r,rfl,h1,h2⟩:=h;exact⟨v,r,rfl,Rep.but e d v n.1 h1,nM.but e ds r n.2 h2⟩
end
abbrev Upw(xs:Array Nat):Prop:=xs.toList.Pairwise (· < ·)
theorem BX{xs:Array Nat}(h:Upw xs){i k a b:Nat}(hik:i<k)(ha:xs[i]?=some a)(hb:xs[k]?=some b):a<b:=by rw[<-bM]at ha hb;obtain⟨h1,rfl⟩:=bo.mp ha;obtain⟨h2,rfl⟩:=bo.mp hb;exact jc.mp h i k h1 h2 hik
theorem yj{xs:Array Nat}(h:Upw xs)(j:Nat):∀(f lo hi:Nat),hi<=xs.size->lo<=hi->hi - lo<=f->(∀i a,i<lo->xs[i]?=some a->a<j)->(∀i a,hi<=i->xs[i]?=some a->j<=a)->
  gf xs j f lo hi<=xs.size/\(∀i a,i<gf xs j f lo hi->xs[i]?=some a->a<j)/\∀i a,gf xs j f lo hi<=i->xs[i]?=some a->j<=a
 |0,lo,hi,h1,h2,h3,h4,h5=>⟨bH h2 h1,h4,λi a hi'=>h5 i a (bH (by omega) (show lo<=i from hi'))⟩
 |f+1,lo,hi,h1,h2,h3,h4,h5=>by
  unfold gf;by_cases hl:lo<hi
  ·rw[ag hl];have hm:(lo+hi) / 2<xs.size:=by omega
   have e:xs[(lo+hi) / 2]?=some xs[(lo+hi) / 2]:=du hm;have g:xs.getD ((lo+hi) / 2) j=xs[(lo+hi) / 2]:=by rw[dO,e];rfl
   dsimp only;rw[g];by_cases hc:xs[(lo+hi) / 2]<j
   ·rw[ag hc];refine yj h j f _ hi h1 (by omega) (by omega) (λi a hi' ea=>?_) h5;rcases kX i ((lo+hi) / 2)with z|z
    ·exact gw (BX h z ea e) hc
    ·have:i=(lo+hi) / 2:=by omega
     rw[this,e]at ea;cases ea;exact hc
   ·rw[ah hc];refine yj h j f lo _ (by omega) (by omega) (by omega) h4 λi a hi' ea=>?_;rcases kX ((lo+hi) / 2) i with z|z
    ·have:=BX h z e ea;omega
    ·have:i=(lo+hi) / 2:=by omega
     rw[this,e]at ea;cases ea;omega
  ·rw[ah hl];exact⟨by omega,h4,λi a hi'=>h5 i a (by omega)⟩
theorem yk{xs:Array Nat}(h:Upw xs)(j:Nat):bq xs j<=xs.size/\(∀i a,i<bq xs j->xs[i]?=some a->a<j)/\∀i a,bq xs j<=i->xs[i]?=some a->j<=a:=
 yj h j xs.size 0 xs.size (aC _) (b8 _) (by omega) (λi a z=>ak z (by omega)) λi a z e=>by have:=(fV.mp e).1;omega
variable{j:Nat}
theorem below_at{xs:Array Nat}(h:Upw xs){i:Nat}(e:xs[i]?=some j):bq xs j=i:=by
 obtain⟨h1,h2,h3⟩:=yk h j;rcases jZ (bq xs j) i with z|z|z
 ·have hb:bq xs j<xs.size:=gw z (fV.mp e).1;have eb:xs[bq xs j]?=some xs[bq xs j]:=du hb;have:=h3 _ _ (aC _) eb;have:=BX h z eb e;omega
 ·exact z
 ·have:=h2 i j z e;omega
theorem Ba{α:Type}(xs:Array α)(p:Nat)(x:α):(bZ xs p x).toList=xs.toList.take p++x::xs.toList.drop p:=by unfold bZ;simp;rw[f6];rw[cp,bR];exact aC _
theorem sR{α:Type}(xs:Array α){p:Nat}(hp:p<=xs.size)(x:α)(i:Nat):(bZ xs p x)[i]?=if i<p then xs[i]? else if i=p then some x else xs[i - 1]?:=by
 have len:(xs.toList.take p).length=p:=by rw[bp,bR];omega
 rw[<-bM,Ba,List.getElem?_append,len];by_cases h:i<p
 ·rw[ag h,ag h,List.getElem?_take,ag h,bM]
 ·rw[ah h,ah h];by_cases h2:i=p
  ·subst h2;rw[ag rfl,gx];rfl
  ·rw[ah h2];obtain⟨k,rfl⟩:∃k,i=p+(k+1):=⟨i - p - 1,by omega⟩;rw[show p+(k+1) - p=k+1 by omega,jh,c6,bM];congr 1
theorem MY{xs:Array Nat}(h:Upw xs)(hj:j∉xs.toList):Upw (bZ xs (bq xs j) j):=by
 obtain⟨h1,h2,h3⟩:=yk h j;have h':=h;unfold Upw at h' ⊢;rw[Ba,jD];rw[<-gZ (bq xs j) xs.toList,jD]at h';have lo:∀a∈xs.toList.take (bq xs j),a<j:=λa ha=>by obtain⟨i,hi,rfl⟩:=dQ.mp ha;have hi':=hi;rw[bp]at hi';refine h2 i _ (by omega) ?_;rw[<-bM,List.getElem_take,aS]
 have hg:∀a∈xs.toList.drop (bq xs j),j<a:=λa ha=>by
  have ma:a∈xs.toList:=fA ha;obtain⟨i,hi,rfl⟩:=dQ.mp ha;have hi':=hi;rw[cp]at hi';have:=h3 (bq xs j+i) (xs.toList.drop (bq xs j))[i] (by omega) (by rw[<-bM,List.getElem_drop,aS]);rcases jT this with z|z
  ·exact z
  ·exact ak (z▸ma) hj
 refine⟨h'.1,List.pairwise_cons.mpr ⟨hg,h'.2.1⟩,λa ha b hb=>?_⟩;rcases aW.mp hb with rfl|hb
 ·exact lo a ha
 ·exact gw (lo a ha) (hg b hb)
structure Tu(t:bj)(m n:Nat):Prop extends Tb t m n where
 up:Upw t.place
section
variable{t:bj}{m n:Nat}
theorem Tu.live(T:Tu t m n){i:Nat}(e:t.place[i]?=some j):t.slot j=.live i:=by unfold kJ;rw[below_at T.up e];dsimp only;rw[e];simp
theorem Tu.emp(T:Tu t m n)(e:t.slot j=.empty):j∉t.place.toList:=λh=>by obtain⟨i,hi,rfl⟩:=dQ.mp h;rw[T.live (i:=i) (by rw[<-bM,aS hi])]at e;cases e
def tM(m:Nat):bj:=⟨m,#[],#[],0,false,0,false⟩
def Wy(m:Nat)(O:Nat->Prop)(j:Nat):Nat->cj->Prop
 |0,_=>False
 |f+1,p=>p.j=j\/(O p.j/\Wy m O j f ((tM m).advance p))
theorem Wy.mono{O O':Nat->Prop}(h:∀x,O x->O' x):∀{f f':Nat} {p:cj},Wy m O j f p->f<=f'->Wy m O' j f' p
 |0,_,_,w,_=>w.elim
 |f+1,0,_,_,l=>ak l (by omega)
 |f+1,f'+1,p,w,l=>w.imp id λw=>⟨h _ w.1,w.2.mono h (by omega)⟩
theorem Ac(T:Tb t m n)(p:cj):t.advance p=(tM m).advance p:=by obtain⟨rfl,_,_⟩:=T;rfl
theorem JH(T:Tb t m n)(h:Int):t.probeStart h=(tM m).probeStart h:=by obtain⟨rfl,_,_⟩:=T;rfl
abbrev Oc(t:bj)(x:Nat):Prop:=x∈t.place.toList
theorem MZ{x:Nat}(h:Oc t x):∃i:Nat,t.place[i]?=some x:=by obtain⟨i,hi,rfl⟩:=dQ.mp h;exact⟨i,by rw[<-bM,aS hi]⟩
theorem JI(T:Tu t m n)(F:Nat->Int)(h:Int){i0 j0:Nat}(e0:t.place[i0]?=some j0)(h0:F i0=h):∀(f:Nat) (p:cj),p.dummy=none->Wy m (Oc t) j0 f p->∀g,f<=g->
  ∃j i next f',f'<f/\t.slot j=.live i/\t.place[i]?=some j/\F i=h/\c9 t F h g p=some (.candidate j i next)/\next.dummy=none/\(i=i0\/Wy m (Oc t) j0 f' next)
 |0,p,_,he,g,_=>he.elim
 |f+1,p,hd,he,0,hg=>ak hg (by omega)
 |f+1,p,hd,he,g+1,hg=>by
  unfold c9;obtain⟨i,ei,hi⟩:∃i:Nat,t.place[i]?=some p.j/\(i=i0\/Wy m (Oc t) j0 f ((tM m).advance p)):=by
   rcases he with e|⟨e,w⟩
   ·exact⟨i0,by rw[e];exact e0,.inl rfl⟩
   ·obtain⟨i,ei⟩:=MZ e;exact⟨i,ei,.inr w⟩
  rw[T.live ei];dsimp only;rw[Ac T.toTb];by_cases hh:F i=h
  ·exact⟨p.j,i,(tM m).advance p,f,dU f,T.live ei,ei,hh,by rw[ag (by rw[hh];simp)],Ab hd,hi⟩
  ·rw[ah (by simpa using hh)];have w:=hi.resolve_left λe=>hh (by rw[e];exact h0);obtain⟨j,i',nx,f',h1,h2⟩:=JI T F h e0 h0 f _ (Ab hd) w g (by omega);exact⟨j,i',nx,f',by omega,h2⟩
theorem JJ(T:Tu t m n)(F:Nat->Int)(h:Int):∀(f:Nat) (p:cj),p.dummy=none->Emp t f p->∀g,f<=g->(∃j,t.slot j=.empty/\c9 t F h g p=some (.empty j none)/\Wy m (Oc t) j f p)\/
  ∃j i next f',f'<f/\t.slot j=.live i/\t.place[i]?=some j/\F i=h/\c9 t F h g p=some (.candidate j i next)/\next.dummy=none/\Emp t f' next/\∀x,Wy m (Oc t) x f' next->Wy m (Oc t) x f p
 |0,p,_,he,g,_=>he.elim
 |f+1,p,hd,he,0,hg=>ak hg (by omega)
 |f+1,p,hd,he,g+1,hg=>by
  unfold c9;rcases T.slot p.j with ⟨i,e1,e2⟩|e1
  ·have he:Emp t f (t.advance p):=he.resolve_left λe=>by rw[e1]at e;cases e
   have oc:Oc t p.j:=by rw[<-bM]at e2;exact bw e2
   rw[e1];dsimp only;by_cases hh:F i=h
   ·right;exact⟨p.j,i,t.advance p,f,dU f,e1,e2,hh,by rw[ag (by rw[hh];simp)],Ab hd,he,λx w=>.inr ⟨oc,by rw[<-Ac T.toTb];exact w⟩⟩
   ·rw[ah (by simpa using hh)];rcases JJ T F h f (t.advance p) (Ab hd) he g (by omega)with ⟨j,h1,h2,h3⟩|⟨j,i',nx,f',h1,h2,h3,h4,h5,h6,h7,h8⟩
    ·exact .inl ⟨j,h1,h2,.inr ⟨oc,by rw[<-Ac T.toTb];exact h3⟩⟩
    ·exact .inr ⟨j,i',nx,f',by omega,h2,h3,h4,h5,h6,h7,λx w=>.inr ⟨oc,by rw[<-Ac T.toTb];exact h8 x w⟩⟩
  ·left;rw[e1];exact⟨p.j,e1,by rw[hd],.inl rfl⟩
end
noncomputable abbrev hkE(prog:aq) (w:ao) (q:List Key×Addr):Int×aa:=(tupleKeyHash (oa prog w) q.1,.ref q.2)
structure Eh(prog:aq)(w:ao)(h:Heap)(L:List (List Key×Addr))(es:Array (Int×aa)):Prop where
 tk:∀q∈L,TK prog w h q.1 q.2
 p:es.toList.Perm (L.map (hkE prog w))
section
variable{prog:aq}{w:ao}{A:ay}{E:aa->ae->Prop}{s:ae}{L:List (List Key×Addr)}{es:Array (Int×aa)}{t:bj}{m n ep:Nat}{S a2:Addr}{k2:List Key}{o:Obj}{h:Int}
theorem Eh.at(l:Eh prog w s.heap L es){i:Nat}{e:Int×aa}(he:es[i]?=some e):∃q∈L,e=hkE prog w q:=by rw[<-bM]at he;obtain⟨q,hq,rfl⟩:=aI.mp (l.p.mem_iff.mp (bw he));exact⟨q,hq,rfl⟩
theorem ym{Q:ja->ae->Prop}{R:Nat->cj->Prop}{Z:Nat->Prop}(hu:A.units<cLine)(T:Tb t m n)(hm:m % 2=1)(hf:t.fits es.size=true)(l:Eh prog w s.heap L es)(t2:TK prog w s.heap k2 a2)
  (ho:s.heap.get? S=some o) (hd:o.data=.set es ep t) (hZ:∀j,Z j->Q (.free j false) s) (hT:k2∈L.map bC->Q (.there none) s)
  (step:∀f p,p.dummy=none->R f p->f<=10 * bB m->(∃j,c9 t (λi=>(es[i]?.map (·.1)).getD 0) h (10 * bB m) p=some (.empty j none)/\Z j)\/∃j i next f',f'<f/\t.slot j=.live i/\t.place[i]?=some j/\
   c9 t (λi=>(es[i]?.map (·.1)).getD 0) h (10 * bB m) p=some (.candidate j i next)/\next.dummy=none/\((∃q∈L,es[i]?=some (hkE prog w q)/\q.1=k2)\/R f' next)):∀(fuel f:Nat) (st:Option cj),f<fuel->f<=10 * bB m->(st.getD (t.probeStart h)).dummy=none->R f (st.getD (t.probeStart h))->
   af (model prog w) A (setSearchFrom S (.ref a2) h true fuel st) Q E s
 |0,f,st,hl,_,_,_=>ak hl (by omega)
 |fuel+1,f,st,hl,hg,hdm,he=>by
  have sz:es.size=n:=by unfold fO at hf;rw[aA,beq_iff_eq,T.pl]at hf;exact hf.1.symm
  unfold setSearchFrom;refine au (fI ho hd hf ?_);dsimp only;rw[ah (by unfold SetTable.gaveWay;rw[T.mask,hm];decide)];unfold SetTable.probe;rw[MX (F':=λi=>(es[i]?.map (·.1)).getD 0),T.mask]
  rotate_left
  ·intro i;rfl
  rcases step f _ hdm he hg with ⟨j,e2,z⟩|⟨j,i,nx,f',h1,h2,h3,h5,h6,h7⟩
  ·rw[e2];exact aD (hZ j z)
  ·rw[h5];dsimp only;have hi:i<es.size:=by rw[sz,<- T.pl];exact(fV.mp h3).1
   obtain⟨q,hq,ey,c⟩:∃q∈L,es[i]?=some (hkE prog w q)/\(q.1=k2\/R f' nx):=by
    rcases h7 with ⟨q,hq,e,k⟩|h7
    ·exact⟨q,hq,e,.inl k⟩
    ·obtain⟨q,hq,e⟩:=l.at (du hi);exact⟨q,hq,by rw[<-e,du hi],.inr h7⟩
   have t1:=l.tk q hq;have si:t.sameMemory t.moves m=some true:=by unfold SetTable.sameMemory;simp
   have sb:∀v∈lC (λx:Int×aa=>x.snd) (Array.filter (λx=>x.fst==h) es).toList,∃k a,v=Value.ref a/\TK prog w s.heap k a:=λv hv=>by
    obtain⟨e,he,rfl⟩:=aI.mp hv;have he:e∈es.toList:=by rw[Array.toList_filter]at he;exact(bz.mp he).1
    obtain⟨q,hq,rfl⟩:=aI.mp (l.p.mem_iff.mp he);exact⟨q.1,q.2,rfl,l.tk q hq⟩
   cases hb:t.led;refine au (F8 sb t2 ?_)
   all_goals
    rw[ey];refine au (de (wpAny_eqBool_tuple hu t1 t2 ?_));refine au (fI ho hd hf ?_);by_cases hk:q.1=k2
    ·rw[bc hk];exact aD (hT (aI.mpr ⟨q,hq,hk⟩))
    rw[bh hk];dsimp only;rw[ah (by decide),si];dsimp only;rw[ag rfl,h2];dsimp only;rw[ey];refine au (wpAny_isSame_ref_self ?_);refine au (aD ?_);exact ym hu T hm hf l t2 ho hd hZ hT step fuel f' (some nx) (by omega) (by omega) h6 (c.resolve_left hk)
def IV(m:Nat)(t:bj)(es:Array (Int×aa)):Prop:=∀(i:Nat) (e:Int×aa) (j:Nat),es[i]?=some e->t.place[i]?=some j->Wy m (Oc t) j (10 * bB m) ((tM m).probeStart e.1)
theorem Ga{Q:ja->ae->Prop}(hu:A.units<cLine)(T:Tu t m n)(hm:m % 2=1/\10 * bB m<100000)(hf:t.fits es.size=true)(l:Eh prog w s.heap L es)(W:IV m t es)(t2:TK prog w s.heap k2 a2)(ho:s.heap.get? S=some o)(hd:o.data=.set es ep t)
  (he:k2∈L.map bC) (hT:Q (.there none) s):af (model prog w) A (setSearchFrom S (.ref a2) (tupleKeyHash (oa prog w) k2) true 100000 none) Q E s:=by
 obtain⟨q,hq,rfl⟩:=aI.mp he;obtain⟨i0,hi,e0⟩:=dQ.mp (l.p.mem_iff.mpr (ba (f:=hkE prog w) hq));have e0:es[i0]?=some (hkE prog w q):=by rw[<-bM,aS hi,e0]
 have sz:es.size=t.place.size:=by unfold fO at hf;rw[aA,beq_iff_eq]at hf;exact hf.1.symm
 rw[bR]at hi;have p0:t.place[i0]?=some t.place[i0]:=du (by omega);refine ym (Z:=λ_=>False) (R:=λf p=>Wy m (Oc t) t.place[i0] f p) hu T.toTb hm.1 hf l t2 ho hd (λj z=>z.elim) (λ_=>hT) (λf p hdm wy hg=>.inr ?_) 100000 _ none hm.2 (aC _) rfl (by
  rw[gj,JH T.toTb];exact W i0 _ _ e0 p0)
 obtain⟨j,i,nx,f',h1,h2,h3,h4,h5,h6,h7⟩:=JI T (λi=>(es[i]?.map (·.1)).getD 0) (tupleKeyHash (oa prog w) q.1) p0 (by show (es[i0]?.map (·.1)).getD 0=_;rw[e0];rfl) f p hdm wy _ hg
 refine⟨j,i,nx,f',h1,h2,h3,h5,h6,?_⟩;rcases h7 with rfl|h7
 ·exact .inl ⟨q,hq,e0,rfl⟩
 ·exact .inr h7
theorem Gb{Q:ja->ae->Prop}(hu:A.units<cLine)(T:Tu t m n)(hm:m % 2=1/\10 * bB m<100000)(hf:t.fits es.size=true)(l:Eh prog w s.heap L es)(t2:TK prog w s.heap k2 a2)(ho:s.heap.get? S=some o)(hd:o.data=.set es ep t)
  (he:k2∉L.map bC) (em:Emp t (10 * bB m) (t.probeStart h)) (hZ:∀j,t.slot j=.empty->Wy m (Oc t) j (10 * bB m) ((tM m).probeStart h)->Q (.free j false) s):af (model prog w) A (setSearchFrom S (.ref a2) h true 100000 none) Q E s:=by
 refine ym (Z:=λj=>t.slot j=.empty/\Wy m (Oc t) j (10 * bB m) ((tM m).probeStart h)) (R:=λf p=>Emp t f p/\∀x,Wy m (Oc t) x f p->Wy m (Oc t) x (10 * bB m) ((tM m).probeStart h)) hu T.toTb hm.1 hf l t2 ho hd (λj z=>hZ j z.1 z.2) (λz=>ak z he) (λf p hdm wy hg=>?_) 100000 _ none hm.2 (aC _) rfl ⟨em,λx w=>by
  rw[gj,JH T.toTb]at w;exact w⟩
 rcases JJ T (λi=>(es[i]?.map (·.1)).getD 0) h f p hdm wy.1 _ hg with ⟨j,h1,h2,h3⟩|⟨j,i',nx,f',h1,h2,h3,h4,h5,h6,h7,h8⟩
 ·exact .inl ⟨j,h2,h1,wy.2 j h3⟩
 ·exact .inr ⟨j,i',nx,f',h1,h2,h3,h5,h6,.inr ⟨h7,λx z=>wy.2 x (h8 x z)⟩⟩
end
def Mm(m:Nat):Prop:=m=7\/m=31\/m=127
def M0(m:Nat):Nat->Nat->Nat->Nat
 |0,_,z=>z
 |k+1,i,z=>M0 m k ((i * 5+1) % (m+1)) (z|||2 ^ i)
theorem CS{m r:Nat}:∀(k i z:Nat),(M0 m k i z).testBit r=true->r∈orb m k i\/z.testBit r=true
 |0,i,z,h=>.inr h
 |k+1,i,z,h=>by
  rcases CS k _ _ h with h|h
  ·exact .inl (aM _ h)
  ·rw[Nat.testBit_or,Nat.testBit_two_pow,dZ,bF]at h;rcases h with h|rfl
   ·exact .inr h
   ·exact .inl aH
theorem Gc{m:Nat}(hm:Mm m){i r:Nat}(hi:i<=m)(hr:r<=m):r∈orb m (m+1) i:=by
 have h:∀m∈[7,31,127],((aO (m+1)).all λi=>M0 m (m+1) i 0==2 ^ (m+1) - 1)=true:=by decide +kernel
 have:=aw.mp (h m (by rcases hm with rfl|rfl|rfl<;>simp)) i (bA.mpr (by omega));refine(CS (m+1) i 0 ?_).resolve_right (by simp);rw[eW this,Nat.testBit_two_pow_sub_one,bF];omega
theorem Mm.odd{m:Nat}(h:Mm m):m % 2=1/\10 * bB m<100000:=by rcases h with rfl|rfl|rfl<;>decide
variable{led:Bool}
section
variable{t:bj}{m n:Nat}
theorem Emp.al(T:Tb t m n)(hm:Mm m)(hn:n<=m):∀(k i q:Nat),i<=m->q<32 ^ k->Emp t (10 * (k+(m+1))) (rs m i q)
 |0,i,q,hi,hq=>by
  obtain⟨r,hr,e⟩:=T.free hn;have q0:q=0:=by simpa using hq
  rw[q0,gq];exact Emp.orb T e _ _ (Gc hm hi hr)
 |k+1,i,q,hi,hq=>by have:=Emp.leap T (Emp.al T hm hn k ((i * 5+1+q / 32) % (m+1)) (q / 32) (dR (dJ _ (df m))) (by rw[kY]at hq;omega));exact this.mono (by omega)
theorem CT(h:Int):cf h<32 ^ 13:=by unfold cf;omega
theorem Emp.st(T:Tb t m n)(hm:Mm m)(hn:n<=m)(h:Int):Emp t (10 * bB m) (t.probeStart h):=by
 have:=Emp.al T hm hn 13 (cf h % (m+1)) (cf h) (dR (dJ _ (df m))) (CT h);have e:t.probeStart h=rs m (cf h % (m+1)) (cf h):=by unfold SetTable.probeStart;rw[T.mask];rfl
 rw[e];exact this.mono (by unfold bB;omega)
variable{ow:Array (Option Nat)}{O:Nat->Prop}{j:Nat}
theorem Gd{i q:Nat}:∀(k mo x:Nat),k<=mo->(∀k',k'<k->O (x+k'))->x+k=j->Wy m O j (k+1) ⟨x,mo,i,q,none⟩
 |0,mo,x,_,_,e=>.inl e
 |k+1,0,x,h,_,_=>ak h (by omega)
 |k+1,mo+1,x,h,ho,e=>.inr ⟨ho 0 (by omega),by
   have e1:(tM m).advance ⟨x,mo+1,i,q,none⟩=⟨x+1,mo,i,q,none⟩:=by unfold eE;rw[ag (df mo)];rfl
   rw[e1];exact Gd k mo (x+1) (by omega) (λk' hk=>by rw[show x+1+k'=x+(k'+1) by omega];exact ho _ (by omega)) (by omega)⟩
theorem CU{i q f:Nat}(h:Wy m O j f (rs m ((i * 5+1+q / 32) % (m+1)) (q / 32))):∀(mo x:Nat),(∀k,k<=mo->O (x+k))->Wy m O j (f+mo+1) ⟨x,mo,i,q,none⟩
 |0,x,ho=>.inr ⟨ho 0 (aC _),by
   have e:(tM m).advance ⟨x,0,i,q,none⟩=rs m ((i * 5+1+q / 32) % (m+1)) (q / 32):=by unfold eE kK;rfl
   rw[e];exact h⟩
 |mo+1,x,ho=>.inr ⟨ho 0 (by omega),by
   have e1:(tM m).advance ⟨x,mo+1,i,q,none⟩=⟨x+1,mo,i,q,none⟩:=by unfold eE;rw[ag (df mo)];rfl
   rw[e1];exact CU h mo (x+1) λk hk=>by rw[show x+1+k=x+(k+1) by omega];exact ho _ (by omega)⟩
abbrev Oo(m:Nat)(ow:Array (Option Nat))(x:Nat):Prop:=x<=m/\¬Nn ow x
theorem JK{i:Nat}(hi:i<=m):i<=bP m i/\bP m i<=m/\bP m i<=i+9:=by unfold bP;split<;>omega
theorem Ad{f i q:Nat}(hi:i<=m):(∃k,k<=bP m i - i/\Nn ow (i+k)/\(∀k',k'<k->¬Nn ow (i+k'))/\cJ m ow (f+1) i q=some (i+k))\/
  ((∀k,k<=bP m i - i->¬Nn ow (i+k))/\cJ m ow (f+1) i q=cJ m ow f ((i * 5+1+q / 32) % (m+1)) (q / 32)):=by
 have ef:cJ m ow (f+1) i q=match (aO (bP m i+1 - i)).find? λk=>(ow.getD (i+k) (some 0)).isNone with
  |some k=>some (i+k)
  |none=>cJ m ow f ((i * 5+1+q / 32) % (m+1)) (q / 32):=rfl
 have rm:=JK hi;rw[ef];cases e:(aO (bP m i+1 - i)).find? λk=>(ow.getD (i+k) (some 0)).isNone with
 |some k=>
  obtain⟨h1,a,b,h2,h3⟩:=List.find?_eq_some_iff_append.mp e;have hl:a.length=k/\∀x,x<k->x∈a:=by
   have ek:(aO (bP m i+1 - i))[a.length]?=some k:=by rw[h2];simp
   obtain⟨z1,z2⟩:=bo.mp ek;rw[List.getElem_range]at z2;refine⟨z2,λx hx=>?_⟩;have ex:(aO (bP m i+1 - i))[x]?=some x:=by rw[hJ];rw[c8]at z1;omega
   rw[h2,cZ (by omega)]at ex;exact bw ex
  have hk:k∈aO (bP m i+1 - i):=List.mem_of_find?_eq_some e;rw[bA]at hk;have h5:∀k',k'<k->¬Nn ow (i+k'):=λk' hk' z=>by have:=h3 k' (hl.2 k' hk');unfold Nn at z;rw[z]at this;cases this
  exact .inl ⟨k,by omega,h1,h5,rfl⟩
 |none=>refine .inr ⟨λk hk h=>?_,rfl⟩;have:=List.find?_eq_none.mp e k (bA.mpr (by omega));exact this h
theorem zk{r:Nat}(hr:Nn ow r):∀(k f i:Nat),k<=f->i<=m->r∈orb m k i->∃j,cJ m ow f i 0=some j
 |0,f,i,_,_,h=>by cases h
 |k+1,0,i,hf,_,_=>ak hf (by omega)
 |k+1,f+1,i,hf,hi,h=>by
  rcases Ad (ow:=ow) (f:=f) (q:=0) hi with ⟨k',_,_,_,e⟩|⟨h1,h2⟩
  ·exact⟨_,e⟩
  ·rcases aW.mp h with e|h
   ·exact ak (e▸hr) (h1 0 (b8 _))
   ·rw[h2];exact zk hr k f _ (by omega) (dR (dJ _ (df m))) h
theorem CV(hm:Mm m){r:Nat}(hr:Nn ow r)(h32:r<=m):∀(k f i q:Nat),k+(m+1)<=f->i<=m->q<32 ^ k->∃j,cJ m ow f i q=some j
 |0,f,i,q,hf,hi,hq=>by
  have q0:q=0:=by simpa using hq
  rw[q0];exact zk hr (m+1) f i (by omega) hi (Gc hm hi h32)
 |k+1,0,i,q,hf,_,_=>ak hf (by omega)
 |k+1,f+1,i,q,hf,hi,hq=>by
  rcases Ad (ow:=ow) (f:=f) (q:=q) hi with ⟨k',_,_,_,e⟩|⟨_,h2⟩
  ·exact⟨_,e⟩
  ·rw[h2];exact CV hm hr h32 k f _ _ (by omega) (dR (dJ _ (df m))) (by rw[kY]at hq;omega)
theorem CW:∀(f i q:Nat),i<=m->cJ m ow f i q=some j->Nn ow j/\Wy m (Oo m ow) j (10 * f) (rs m i q)
 |0,i,q,_,e=>by cases e
 |f+1,i,q,hi,e=>by
  have rm:=JK hi;rcases Ad (ow:=ow) (f:=f) (q:=q) hi with ⟨k,h1,h2,h3,h4⟩|⟨h1,h2⟩
  ·rw[h4]at e;cases e;exact⟨h2,(Gd k _ i h1 (λk' hk=>⟨by omega,h3 k' hk⟩) rfl).mono (λ_ h=>h) (by omega)⟩
  ·rw[h2]at e;obtain⟨h3,h4⟩:=CW f _ _ (dR (dJ _ (df m))) e;exact⟨h3,(CU h4 (bP m i - i) i λk hk=>⟨by omega,h1 k hk⟩).mono (λ_ h=>h) (by omega)⟩
def lvm(m:Nat)(ow:Array (Option Nat)):List (Nat×Nat):=(aO (m+1)).filterMap λj=>(ow.getD j none).map (j,·)
theorem M1(hs:ow.size=m+1){j:Nat}(h:Nn ow j):j<m+1/\ow.getD j none=none:=by
 unfold Nn at h;by_cases hj:j<ow.size
 ·refine⟨by omega,?_⟩;rw[dO,du hj]at h ⊢;simpa using h
 ·rw[dO,Array.getElem?_eq_none (by omega)]at h;cases h
theorem Ge(hs:ow.size=m+1){j:Nat}(hj:j<=m)(e:ow.getD j none=none):Nn ow j:=by unfold Nn;rw[dO,du (by omega)]at e ⊢;simpa using e
theorem CY{k:Nat}(hj:j<ow.size)(i:Nat):(ow.setIfInBounds j (some k)).getD i none=if i=j then some k else ow.getD i none:=by
 rw[dO,dO,Array.getElem?_setIfInBounds];by_cases hi:j=i
 ·subst hi;rw[ag rfl,ag (by omega),ag rfl];rfl
 ·rw[ah hi,ah (λe=>hi e.symm)]
theorem IW(hs:ow.size=m+1){k:Nat}(h:Nn ow j):(lvm m (ow.setIfInBounds j (some k))).Perm ((j,k)::lvm m ow):=by
 obtain⟨hj,e⟩:=M1 hs h;have get:=CY (ow:=ow) (k:=k) (j:=j) (by omega);obtain⟨a,b,sp⟩:=List.append_of_mem (bA.mpr hj);have nd:(aO (m+1)).Nodup:=kc;rw[sp,bO,dY]at nd;unfold lvm;rw[sp,jz,jz,cM,cM,get j,ag rfl,e];have eq:∀l:List Nat,j∉l->l.filterMap (λi=>((ow.setIfInBounds j (some k)).getD i none).map (i,·))=l.filterMap λi=>(ow.getD i none).map (i,·):=λl hl=>by
  induction l with
  |nil=>rfl
  |cons i l ih=>rw[cM,cM,ih λz=>hl (aM _ z),get i,ah λe=>hl (by rw[<-e];exact aH)]
 rw[eq a λz=>nd.2.2 j z j aH rfl,eq b nd.2.1.1];exact List.perm_middle
theorem Gf(hs:ow.size=m+1)(hl:(lvm m ow).length<=m):∃r,r<=m/\Nn ow r:=by
 apply jd;intro no;have:∀l:List Nat,(∀j∈l,j<=m)->(l.filterMap λj=>(ow.getD j none).map (j,·)).length=l.length:=λl hl=>by
  induction l with
  |nil=>rfl
  |cons j l ih=>
   have hj:=hl j aH;cases e:ow.getD j none with
   |none=>exact ak ⟨j,hj,Ge hs hj e⟩ no
   |some x=>rw[cM,e];show (List.filterMap _ l).length+1=l.length+1;rw[ih λz hz=>hl z (aM _ hz)]
 have:=this (aO (m+1)) λj hj=>by have:=bA.mp hj;omega
 unfold lvm at hl;rw[this,c8]at hl;omega
def Lw(m:Nat)(ow:Array (Option Nat))(hs:List Int):Prop:=∀j k,j<=m->ow.getD j none=some k->∃h,hs[k]?=some h/\Wy m (Oo m ow) j (10 * bB m) ((tM m).probeStart h)
theorem JL(hm:Mm m):∀(hs pre:List Int) (ow:Array (Option Nat)),ow.size=m+1->((lvm m ow).map dj).Perm (aO pre.length)->Lw m ow pre->pre.length+hs.length<=m->∃ow',ow'.size=m+1/\((lvm m ow').map dj).Perm (aO (pre.length+hs.length))/\Lw m ow' (pre++hs)/\
  (hs.foldl (λacc h=>do
   let (owner,k)<-acc;let j<-cJ m owner (bB m) (cf h % (m+1)) (cf h)
   pure (owner.setIfInBounds j (some k),k+1)) (some (ow,pre.length)))=some (ow',pre.length+hs.length)
 |[],pre,ow,h1,h2,h4,_=>⟨ow,h1,h2,by rw[bK];exact h4,rfl⟩
 |h::hs,pre,ow,h1,h2,h4,h3=>by
  rw[aE]at h3;have ll:=h2.length_eq;rw[ai,c8]at ll;obtain⟨r,hr,nr⟩:=Gf h1 (by omega);have mo:cf h % (m+1)<=m:=dR (dJ _ (df m));obtain⟨j,ej⟩:=CV hm nr hr 13 (bB m) (cf h % (m+1)) (cf h) (by unfold bB;omega) mo (CT h);obtain⟨nj,wj⟩:=CW _ _ _ mo ej;have jl:=(M1 h1 nj).1;have get:=CY (ow:=ow) (k:=pre.length) (j:=j) (by omega);have up:∀x,Oo m ow x->Oo m (ow.setIfInBounds j (some pre.length)) x:=λx hx=>⟨hx.1,λz=>by
   have:=(M1 (m:=m) (by rw[jg];exact h1) z).2;rw[get x]at this;split at this
   ·cases this
   ·exact hx.2 (Ge h1 hx.1 this)⟩
  obtain⟨ow',q1,q2,q4,q3⟩:=JL hm hs (pre++[h]) (ow.setIfInBounds j (some pre.length)) (by rw[jg];exact h1) (by
   refine((IW h1 nj).map dj).trans ?_;rw[aN,aB,bY,List.range_succ];exact((List.Perm.cons _ h2).trans (gR _ _).symm)) (λx k hx e=>by
    rw[get x]at e;split at e
    ·rename_i ex;cases e;subst ex;exact⟨h,by rw[dr (aC _),gx];rfl,wj.mono up (aC _)⟩
    ·obtain⟨h',e1,w⟩:=h4 x k hx e;exact⟨h',by rw[cZ (bo.mp e1).1];exact e1,w.mono up (aC _)⟩) (by rw[aB,bY];omega)
  rw[aB,bY]at q2 q3;refine⟨ow',q1,by rw[aE,show pre.length+(hs.length+1)=pre.length+1+hs.length by omega];exact q2,by rw[bJ]at q4;exact q4,?_⟩;rw[cP,aE,show pre.length+(hs.length+1)=pre.length+1+hs.length by omega,<- q3];congr 1;show (cJ m ow (bB m) (cf h % (m+1)) (cf h)).bind _=_;rw[ej];rfl
theorem M3{fg mv:Nat}{pl:Bool}(hm:Mm m)(hs:Array Int)(hn:hs.size<=m):∃t order,kM m fg mv led pl hs=some (t,order)/\Tu t m hs.size/\t.led=led/\t.plain=pl/\order.toList.Perm (aO hs.size)/\
  ∀(i j k:Nat),t.place[i]?=some j->order[i]?=some k->∃h,hs[k]?=some h/\Wy m (Oc t) j (10 * bB m) ((tM m).probeStart h):=by
 have no:∀j,(iz (m+1) (none:Option Nat)).getD j none=none:=λj=>by rw[dO,Array.getElem?_replicate];split<;>rfl
 obtain⟨ow,h1,h2,h4,h3⟩:=JL hm hs.toList [] (iz (m+1) none) (by simp) (by
  have:lvm m (iz (m+1) none)=[]:=by unfold lvm;rw[List.filterMap_eq_nil_iff];intro j hj;rw[no j];rfl
  rw[this];exact .nil) (λj k _ e=>by rw[no j]at e;cases e) (by rw[bR];simpa using hn)
 rw[dE,gq,bR]at h2 h3;have e:j2 m hs=some ow:=by unfold j2;rw[<-Array.foldl_toList];exact aL (Option.map bC) h3
 have mem:∀q∈lvm m ow,q.1<=m/\ow.getD q.1 none=some q.2:=λq hq=>by
  unfold lvm at hq;obtain⟨j,hj,e⟩:=cN.mp hq;cases e2:ow.getD j none with
  |none=>rw[e2]at e;cases e
  |some x=>rw[e2]at e;cases e;exact⟨dR (bA.mp hj),e2⟩
 refine⟨⟨m,((lvm m ow).map (·.1)).toArray,#[],fg,led,mv,pl⟩,((lvm m ow).map (·.2)).toArray,by unfold kM;rw[e];rfl,⟨⟨rfl,rfl,?_⟩,?_⟩,rfl,rfl,h2,λi j k ej ek=>?_⟩
 ·have:=h2.length_eq;rw[ai,c8]at this;rw[aQ,ai,this]
 ·show List.Pairwise _ ((lvm m ow).map (·.1))
  have sub:∀l:List Nat,((l.filterMap λj=>(ow.getD j none).map (j,·)).map (·.1)).Sublist l:=λl=>by
   induction l with
   |nil=>exact .slnil
   |cons x l ih=>
    rw[cM];cases ow.getD x none with
    |none=>exact ih.cons x
    |some y=>exact ih.cons_cons x
  exact mG (sub _) List.pairwise_lt_range
 ·rw[gY,bb]at ej ek;obtain⟨q,e1,rfl⟩:=jo.mp ej;rw[e1]at ek;cases ek;obtain⟨m1,m2⟩:=mem q (bw e1);obtain⟨h,g1,g2⟩:=h4 q.1 q.2 m1 m2;refine⟨h,by rw[cu,bM]at g1;exact g1,g2.mono (λx hx=>?_) (aC _)⟩;show x∈(lvm m ow).map (·.1)
  cases e2:ow.getD x none with
  |none=>exact ak (Ge h1 hx.1 e2) hx.2
  |some y=>exact aI.mpr ⟨(x,y),cN.mpr ⟨x,bA.mpr (by have:=hx.1;omega),by rw[e2];rfl⟩,rfl⟩
end
theorem JM{α β:Type}(f:α->Option β):∀(l:List α),(∀k∈l,∃e,f k=some e)->∀i:Nat,(l.filterMap f)[i]?=l[i]?.bind f
 |[],_,i=>rfl
 |a::l,h,i=>by
  obtain⟨e,ea⟩:=h a aH;rw[cM,ea];cases i with
  |zero=>exact ea.symm
  |succ i=>exact JM f l (λk hk=>h k (aM _ hk)) i
section
variable{prog:aq}{w:ao}{A:ay}{E:aa->ae->Prop}{s:ae}{L:List (List Key×Addr)}{es:Array (Int×aa)}{t:bj}{m n ep:Nat}{S a2:Addr}{k2:List Key}{o:Obj}{h:Int}
theorem IY{Q:Unit->ae->Prop}(hc:(t.mask=7/\es.size=5/\m=31)\/(t.mask=31/\es.size=19/\m=127))(ho:s.heap.get? S=some o)(hd:o.data=.set es ep t)(hf:t.fits es.size=true)
  (hQ:∀h' es' t',eO S s.heap h'->h'.get? S=some { o with data:=.set es' (ep+1) t' }->Tu t' m es.size->IV m t' es'->t'.led=t.led->t'.plain=t.plain->es'.toList.Perm es.toList->Q () { s with heap:=h' }):af (model prog w) A (setRelay S (fM es.size)) Q E s:=by
 have hm:Mm m:=by unfold Mm;omega
 have hg:jU (fM es.size) - 1=m/\¬jU (fM es.size) > 1000:=by rcases hc with ⟨_,e,rfl⟩|⟨_,e,rfl⟩<;>rw[e]<;>decide
 unfold setRelay;refine au (fI ho hd hf ?_);dsimp only;rw[ah (by rw[cz];omega)];obtain⟨t',order,e1,T,e2,e3,e4,e5⟩:=M3 (fg:=t.finger) (mv:=t.movedTo m) (led:=t.led) (pl:=t.plain) hm (es.map (·.1)) (by rw[kA];omega)
 rw[kA]at T e4;have all:∀k∈order.toList,∃e,es[k]?=some e:=λk hk=>⟨es[k]'(bA.mp (e4.mem_iff.mp hk)),du _⟩;have hp:(order.filterMap (es[·]?)).toList.Perm es.toList:=by rw[jt];exact(e4.filterMap _).trans (by rw[filterMap_getElem?_range])
 have er:t.relaid (es.map (·.1)) (fM es.size)=some (t',order):=by unfold SetTable.relaid;rw[hg.1];exact e1
 rw[er];have sz:(order.filterMap (es[·]?)).size=es.size:=by have:=hp.length_eq;rw[bR,bR]at this;exact this
 refine au ?_;wp_delta;dsimp only;rw[ah (by rw[sz];simp)];refine aD ?_;refine j3 ho hd ?_ (by show (order.filterMap (es[·]?)).size<=az;rw[sz,cz];omega)
 refine hQ _ _ _ (hX ..) (FM ho hd) T (λi e j he hj=>?_) e2 e3 hp;rw[<-bM,jt,JM _ _ all]at he;obtain⟨k,ek,he⟩:=Option.bind_eq_some_iff.mp he;rw[bM]at ek;obtain⟨h,eh,w⟩:=e5 i j k hj ek;rw[Array.getElem?_map,he]at eh;cases eh;exact w
def Cw(m n:Nat)(t:bj)(es:Array (Int×aa)):Prop:=Tu t m n/\Cz2 m n/\IV m t es
theorem M4{m n:Nat}(h:Cz2 m n):Mm m/\n<=m/\n+1<=m:=by unfold Cz2 at h;unfold Mm;omega
theorem Pf{m n:Nat}(h:Cz2 m n)(h0:n<63)(h5:(n+1) * 5 >= m * 3):∃m',((m=7/\n+1=5/\m'=31)\/(m=31/\n+1=19/\m'=127))/\Cz2 m' (n+1):=by
 unfold Cz2 at h ⊢;by_cases z:m=7
 ·exact⟨31,by omega⟩
 ·exact⟨127,by omega⟩
theorem Pg{m n:Nat}(h:Cz2 m n)(h0:n<63)(h5:¬(n+1) * 5 >= m * 3):Cz2 m (n+1):=by unfold Cz2 at h ⊢;omega
theorem OB{x:Str}{Q:Bool->ae->Prop}(hu:A.units<cLine)(C:Cw m n t es)(h60:n<63)(hf:t.fits es.size=true)(l:Eh prog w s.heap L es)(t2:TK prog w s.heap (Sum.inr x::k2) a2)
  (ho:s.heap.get? S=some o) (hd:o.data=.set es ep t) (hT:(Sum.inr x::k2)∈L.map bC->Q false s)
  (hQ:(Sum.inr x::k2)∉L.map bC->∀h' es' t' ep' m',eO S s.heap h'->h'.get? S=some { o with data:=.set es' ep' t' }->Cw m' (n+1) t' es'->t'.led=t.led->t'.plain=false->es'.toList.Perm ((tupleKeyHash (oa prog w) (Sum.inr x::k2),.ref a2)::es.toList)->Q true { s with heap:=h' }):
  af (model prog w) A (setAddHashed S (.ref a2) (tupleKeyHash (oa prog w) (Sum.inr x::k2))) Q E s:=by
 obtain⟨T,hc,W⟩:=C;have hm:Mm m:=(M4 hc).1;have sz:es.size=n:=by unfold fO at hf;rw[aA,beq_iff_eq,T.pl]at hf;exact hf.1.symm
 unfold setAddHashed setAddHashedIn;refine de (au (fI ho hd hf ?_));dsimp only;rw[ah (by simp[byScan,Value.scannable])];have nm:n<=m:=(M4 hc).2.1;by_cases ne:(Sum.inr x::k2)∈L.map bC
 ·refine au (Ga hu T hm.odd hf l W t2 ho hd ne ?_);exact aD (hT ne)
 generalize hh:tupleKeyHash (oa prog w) (Sum.inr x::k2)=h at hQ ⊢;refine au (Gb hu T hm.odd hf l t2 ho hd ne (Emp.st T.toTb hm nm h) λj hj wj=>?_);dsimp only;refine au (fI ho hd hf ?_);dsimp only;have p1:(t.put j).1.mask=m:=T.mask;have p2:(t.put j).1.dummies=#[]:=by show (if kW t.dummies j then _ else t.dummies)=_;rw[T.dm];rfl
 have bl:=(yk T.up j).1;have p3:(t.put j).1.place.size=n+1:=by have:=(gX t.place (bq t.place j) j).length_eq;rw[bR,bR,Array.size_push,T.pl]at this;exact this
 have p4:(bZ es (t.put j).2 (h,Value.ref a2)).toList.Perm ((h,.ref a2)::es.toList):=by refine(gX es _ _).trans ?_;rw[j4];exact gR _ _
 have p5:(bZ es (t.put j).2 (h,Value.ref a2)).size=n+1:=by have:=p4.length_eq;rw[bR,aE,bR,sz]at this;exact this
 let t1:bj:={ (t.put j).1 with plain:=false };have T1:Tu t1 m (n+1):=⟨⟨p1,p2,p3⟩,MY T.up (T.emp hj)⟩;have up:∀x,Oc t x->Oc t1 x:=λx hx=>by show x∈(bZ t.place (bq t.place j) j).toList;rw[(gX _ _ _).mem_iff,j4];exact aT _ hx
 have W1:IV m t1 (bZ es (t.put j).2 (h,Value.ref a2)):=λi e r he hr=>by
  have he:(bZ es (bq t.place j) (h,Value.ref a2))[i]?=some e:=he;have hr:(bZ t.place (bq t.place j) j)[i]?=some r:=hr;rw[sR _ (by rw[sz,<- T.pl];exact bl)]at he;rw[sR _ bl]at hr;by_cases c1:i<bq t.place j
  ·rw[ag c1]at he hr;exact(W i e r he hr).mono up (aC _)
  ·rw[ah c1]at he hr;by_cases c2:i=bq t.place j
   ·rw[ag c2]at he hr;cases he;cases hr;exact wj.mono up (aC _)
   ·rw[ah c2]at he hr;exact(W (i - 1) e r he hr).mono up (aC _)
 have f1:t1.fits (bZ es (t.put j).2 (h,Value.ref a2)).size=true:=by unfold fO iH;rw[p5,T1.pl,T1.dm,T1.mask,aA];exact⟨by simp,bc (by have:=(M4 hc).2.2;simp;first|exact this|omega)⟩
 have fin:∀t0:bj,t0=t1->af (model prog w) A (do
   storeSet S (bZ es (t.put j).2 (h,.ref a2)) t0
   if (!false&&t0.tooFull)=true then do setRelay S (fM (es.size+1));pure true else pure true) Q E s:=λt0 e=>by
  subst e;refine au (j3 ho hd ?_ (by rw[p5,cz];omega));have g1:=FM (es':=bZ es (t.put j).2 (h,Value.ref a2)) (t':=t1) ho hd;have tf:t1.tooFull=decide ((n+1) * 5 >= m * 3):=by unfold SetTable.tooFull iH;rw[T1.pl,T1.dm,T1.mask];rfl
  rw[tf];by_cases h5:(n+1) * 5 >= m * 3
  ·rw[bc h5,ag (by decide),sz,<- p5];obtain⟨m',hm',hz⟩:=Pf hc h60 h5;refine au (IY (m:=m') (s:={ s with heap:=s.heap.update S (i7 (bZ es (t.put j).2 (h,.ref a2)) t1) }) (by rw[p5,T1.mask];exact hm') g1 rfl f1 λh' es' t' b1 b2 b3 b3' b4 b5 b6=>?_);rw[p5]at b3;exact aD (hQ ne h' es' t' _ m' ((hX ..).trans b1) b2 ⟨b3,hz,b3'⟩ b4 b5 (b6.trans p4))
  ·rw[bh h5,ah (by decide)];exact aD (hQ ne _ _ _ _ m (hX ..) g1 ⟨T1,Pg hc h60 h5,W1⟩ rfl rfl p4)
 split
 ·refine au (F9 t2 ?_);exact fin _ rfl
 ·rename_i hp;refine au (aD (fin _ ?_));rw[ka]at hp;rw[ag rfl];show (t.put j).1={ (t.put j).1 with plain:=false };rw[<-hp]
end
section
variable{κ α:Type}[DecidableEq κ]
def ust(acc:List (κ×α))(q:κ×α):List (κ×α):=if q.1∈acc.map bC then acc else acc++[q]
def uqP(l:List (κ×α)):List (κ×α):=l.foldl ust []
def uqK(l:List κ):List κ:=l.foldl (λacc k=>if k∈acc then acc else acc++[k]) []
theorem Ae(acc:List (κ×α)):∀l:List (κ×α),∃r,l.foldl ust acc=acc++r/\∀q∈r,q∈l
 |[]=>⟨[],(bK _).symm,λq hq=>by cases hq⟩
 |q::l=>by
  obtain⟨r,e,h⟩:=Ae (ust acc q) l;rw[cP,e];unfold ust;split
  ·exact⟨r,rfl,λq hq=>aM _ (h q hq)⟩
  ·refine⟨q::r,by rw[bJ];rfl,λx hx=>?_⟩;rcases aW.mp hx with rfl|hx
   ·exact aH
   ·exact aM _ (h x hx)
theorem Gg(l:List (κ×α))(q:κ×α):uqP (l++[q])=ust (uqP l) q:=by unfold uqP;rw[iq];rfl
theorem CZ(l:List (κ×α))(i:Nat):(uqP (l.take i)).length<=(uqP l).length:=by
 have e:uqP l=(l.drop i).foldl ust (uqP (l.take i)):=by unfold uqP;rw[<-iq,gZ]
 obtain⟨r,h,_⟩:=Ae (uqP (l.take i)) (l.drop i);rw[e,h,aB];omega
theorem IZ{l:List (κ×α)}{q:κ×α}(h:q∈uqP l):q∈l:=by obtain⟨r,e,h'⟩:=Ae ([]:List (κ×α)) l;unfold uqP at h;rw[e]at h;exact h' q h
theorem I0{κ':Type}[DecidableEq κ']{g:κ->κ'}(hg:∀a b,g a=g b->a=b)(l:List (κ×α)):uqP (l.map λq=>(g q.1,q.2))=(uqP l).map λq=>(g q.1,q.2):=by
 have:∀(l acc:List (κ×α)),(l.map λq=>(g q.1,q.2)).foldl ust (acc.map λq=>(g q.1,q.2))=(l.foldl ust acc).map λq=>(g q.1,q.2):=λl=>by
  induction l with
  |nil=>intro acc;rfl
  |cons q l ih=>
   intro acc;rw[aN,cP,cP,<- ih];congr 1;unfold ust;have:g q.1∈(acc.map λq=>(g q.1,q.2)).map bC ↔ q.1∈acc.map bC:=by rw[bL,aI,aI];exact⟨λ⟨a,h1,h2⟩=>⟨a,h1,hg _ _ h2⟩,λ⟨a,h1,h2⟩=>⟨a,h1,aL g h2⟩⟩
   by_cases hk:q.1∈acc.map bC
   ·rw[ag hk,ag (this.mpr hk)]
   ·rw[ah hk,ah λz=>hk (this.mp z),aY];rfl
 exact this l []
end
structure Ja(prog:aq)(w:ao)(h:Heap)(S:Addr)(L:List (List Key×Addr))(led:Bool)(n:Nat)(o:Obj)(es:Array (Int×aa))(ep:Nat)(t:bj):Prop extends yR h S L led n o es ep t where
 cw:∃m,Cw m n t es
 pe:es.toList.Perm (L.map (hkE prog w))
section
variable{prog:aq}{w:ao}{A:ay}{R:cY->ae->Prop}{I:Addr}{fp wr:List Addr}{GG:Array eA->Array eA->Prop}{n:Nat}{PP:Nat->aa->Prop}{SS:Nat->ae->Prop}
theorem Ei(W:WalksS prog w A.in1 I fp wr GG n PP SS){S:Addr}(hSf:S∉fp)(hu:A.in1.units<cLine)(L:List (List Key×Addr))(hn:L.length=n)(h8:(uqP L).length<63)(hk:∀q∈L,∃x k,q.1=Sum.inr x::k)(far:∀q∈L,q.2∉S::wr)
  (hval:∀i v,PP i v->∃q,L[i]?=some q/\v=.ref q.2):∀(k i:Nat) (s:ae) (o:Obj) (es:Array (Int×aa)) (ep:Nat) (t:bj),n - i=k->i<=n->SS i s->(∀q∈L,TK prog w s.heap q.1 q.2)->Ja prog w s.heap S (uqP (L.take i)) led (uqP (L.take i)).length o es ep t->
   (∀s' o es ep t,Moved (S::wr) GG s s'->Ja prog w s'.heap S (uqP L) led (uqP L).length o es ep t->R (.ok (.ret .none)) s')->
   bV (model prog w) A (.builtin "set.update.loop" ⟨[.ref S,.ref I],[]⟩) R s:=by
 have hSw:S∉wr:=λz=>hSf (W.sub _ z);have up:∀b∈wr,b∈S::wr:=λb z=>aM _ z;intro k
 induction k with
 |zero=>
  intro i s o es ep t hk' hi hst tk x hR;obtain rfl:i=n:=by omega
  refine eG fY ?_;rw[fz dP _];show af _ A.in1 (pyNext (.ref I)>>=_) _ _ s;refine au (W.done s _ _ hst λs' hm=>?_);show af _ A.in1 (ret Value.none) _ _ s';rw[f6 (by omega)]at x;exact aD (hR s' o es ep t (hm.mono up) { x with at_:=hm.heap S _ hSw x.at_ })
 |succ k ih=>
  intro i s o es ep t hk' hi hst tk x hR;have hlt:i<n:=by omega
  refine eG fY ?_;rw[fz dP _];show af _ A.in1 (pyNext (.ref I)>>=_) _ _ s;refine au (W.item i s _ _ hlt hst λv s' hP hst' hm=>?_);obtain⟨q,eq,rfl⟩:=hval i v hP;have mq:q∈L:=bw eq;have tk':∀q∈L,TK prog w s'.heap q.1 q.2:=λq hq=>(tk q hq).kept λo=>hm.heap q.2 o λz=>far q hq (up _ z);show af _ A.in1 (holding _ (setAdd S _)>>=_) _ _ s';refine au (de ?_);unfold setAdd;refine de ?_;refine au (wpAny_pyHash_tuple hu (tk' q mq) ?_);obtain⟨m,C⟩:=x.cw;obtain⟨z,kk,ez⟩:=hk q mq;have tq:TK prog w s'.heap (Sum.inr z::kk) q.2:=by rw[<-ez];exact tk' q mq
  have split:uqP (L.take (i+1))=ust (uqP (L.take i)) q:=by rw[jY,eq];exact Gg _ _
  have sub:∀r∈uqP (L.take i),r∈L:=λr hr=>(il _ _).subset (IZ hr);have x':Ja prog w s'.heap S (uqP (L.take i)) led (uqP (L.take i)).length o es ep t:={ x with at_:=hm.heap S _ hSw x.at_ };have ul:=CZ L i;have ul1:=CZ L (i+1);rw[ez];refine OB (s:={ s' with toks:=s'.toks+((Sum.inr z::kk:List Key).length+1) }) (L:=uqP (L.take i)) hu C (by omega) (yR.fits ⟨x'.at_,x'.ex,x'.d,x'.c,x'.led,x'.pl,x'.p⟩ rfl) ⟨λr hr=>tk' r (sub r hr),x'.pe⟩ tq x'.at_ x'.d (λinn=>?_) λnin h' es' t' ep' m' b1 b2 b3 b5 b6 b7=>?_
  ·rw[<-ez]at inn;have e:uqP (L.take (i+1))=uqP (L.take i):=by rw[split];unfold ust;rw[ag inn]
   refine aD ⟨gp dP _,ih (i+1) _ o es ep t (by omega) hlt (W.frame _ s' s'.heap _ hst' (gk _ _) λb z o e=>e) tk' (by rw[e];exact x') λs'' o2 es2 ep2 t2 hm'' x2=>?_⟩;exact hR s'' o2 es2 ep2 t2 (iW W.gtrans ((hm.mono up).then_heap (gk _ _) λb o z e=>e) hm'') x2
  rw[<-ez]at nin;have e:uqP (L.take (i+1))=uqP (L.take i)++[q]:=by rw[split];unfold ust;rw[ah nin]
  have y:Ja prog w h' S (uqP (L.take (i+1))) led (uqP (L.take (i+1))).length { o with data:=.set es' ep' t' } es' ep' t':=by
   have pe:es'.toList.Perm ((uqP (L.take (i+1))).map (hkE prog w)):=by rw[e,aY];refine b7.trans (.trans ?_ (gR _ _).symm);rw[show hkE prog w q=(tupleKeyHash (oa prog w) (Sum.inr z::kk),.ref q.2) by unfold hkE;rw[ez]];exact List.Perm.cons _ x.pe
   have hl:(uqP (L.take (i+1))).length=(uqP (L.take i)).length+1:=by rw[e,aB];rfl
   rw[hl];exact⟨⟨b2,x.ex,rfl,⟨m',b3.1.toTb,b3.2.1⟩,b5.trans x.led,λ_=>b6,by have:=pe.map dj;rw[bL]at this;exact this⟩,⟨m',b3⟩,pe⟩
  refine aD ⟨gp dP _,ih (i+1) _ _ _ _ _ (by omega) hlt (W.frame _ s' h' _ hst' (gk _ _) λb z o e=>?_) (λr hr=>(tk' r hr).kept λo e=>?_) y λs'' o2 es2 ep2 t2 hm'' x2=>?_⟩
  ·rw[b1.2 b (λy:b=S=>hSf (by rw[<-y];exact z))];exact e
  ·rw[b1.2 r.2 (λy:r.2=S=>far r hr (by rw[y];exact aH))];exact e
  ·refine hR s'' o2 es2 ep2 t2 (iW W.gtrans ((hm.mono up).then_heap (gk _ _) λb o z e=>?_) hm'') x2;rw[b1.2 b (λy:b=S=>z (by rw[y];exact aH))];exact e
end
end L4
namespace L4
open PySem PySem.Spec PySem.Calls PyProof.Rows PySem.W L2 L3
section
variable{X:Cx}{G:Bg}{H:Hp}{pins:List (Addr×Obj)}{σ:St}{s:ae}
theorem JN(L:List (List Str×Addr)):uqP (L.map λq=>(TkS q.1,q.2))=(uqP L).map λq=>(TkS q.1,q.2):=I0 (g:=TkS) (λa b h=>(List.map_inj_right λ_ _ h=>gy h).mp h) L
theorem Gh{prog:aq}{w:ao}{A:ay}{ax:Addr}{its:List aa}{L:List (List Str×Addr)}{led:Bool}{itO:Obj}{SS:Nat->Heap->Prop}(hlt:ax<s.heap.objs.size)(ht:∀q∈L,∃p r,q.1=[p,r])(tk:∀q∈L,TK prog w s.heap (TkS q.1) q.2)
  (ev:∀(i:Nat) (v:aa),its[i]?=some v->∃q,L[i]?=some q/\v=.ref q.2) (li:L.length=its.length) (h8:(uqP L).length<63) (hu:A.in1.units<cLine)
  (W:Walks prog w A.in1 (s.heap.objs.size+1) [s.heap.objs.size+1,ax] [s.heap.objs.size+1] its.toArray.size (λi v=>its.toArray[i]?=some v) SS) (st:SS 0 ((s.heap.push (su led)).push itO)) {R:cY->ae->Prop}
  (hR:∀h2 k2,(∃o es ep t,yR h2 s.heap.objs.size ((uqP L).map λq=>(TkS q.1,q.2)) led (uqP L).length o es ep t)->(∀b o,b<s.heap.objs.size->s.heap.get? b=some o->h2.get? b=some o)->R (.ok (.ret .none)) { s with heap:=h2,toks:=k2 }) (tk':Nat):
  bV (model prog w) A (.builtin "set.update.loop" ⟨[.ref s.heap.objs.size,.ref (s.heap.objs.size+1)],[]⟩) R { s with heap:=(s.heap.push (su led)).push itO,toks:=tk' }:=by
 have notin:s.heap.objs.size∉[s.heap.objs.size+1,ax]:=by
  intro z;rcases aW.mp z with z|z
  ·exact ak z (aR (dU _))
  ·exact ak (bg.mp z) (iJ hlt)
 have ke:∀{b:Addr} {o':Obj},s.heap.get? b=some o'->((s.heap.push (su led)).push itO).get? b=some o':=λe=>aJ _ (aJ _ e);refine Ei (S:=s.heap.objs.size) (led:=led) W.toS notin hu (L.map λq=>(TkS q.1,q.2)) (by rw[ai,aQ,li]) (by rw[JN,ai];exact h8) ?_ ?_ ?_ (its.toArray.size - 0) 0 _ (su led) #[] 0 (.fresh 0 0 led) rfl (b8 _) st ?_ ?_ λs2 o2 es2 ep2 t2 mv S2=>?_
 ·intro q hq;obtain⟨r,hr,rfl⟩:=aI.mp hq;obtain⟨p,z,e⟩:=ht r hr;exact⟨p,[.inr z],by show TkS r.1=_;rw[e];rfl⟩
 ·intro q hq z;obtain⟨r,hr,rfl⟩:=aI.mp hq;obtain⟨ob,_,_,e,_⟩:=tk r hr;have:=aF e;rcases aW.mp z with z|z
  ·exact ak z (aR this)
  ·exact ak (bg.mp z) (aR (dy this))
 ·intro i v e;rw[gY]at e;obtain⟨q,e1,e2⟩:=ev i v e;exact⟨(TkS q.1,q.2),by rw[bb,e1];rfl,e2⟩
 ·intro q hq;obtain⟨r,hr,rfl⟩:=aI.mp hq;exact(tk r hr).kept λo=>ke
 ·exact⟨⟨aJ _ (bx _ rfl),⟨rfl,rfl,rfl⟩,rfl,⟨7,⟨rfl,rfl,rfl⟩,.inl ⟨rfl,b8 4⟩⟩,rfl,λz=>ak z (dG 0),.nil⟩,⟨7,⟨⟨rfl,rfl,rfl⟩,.nil⟩,.inl ⟨rfl,b8 4⟩,λi e j he _=>by cases he⟩,.nil⟩
 ·obtain⟨h2,g2,d2,k2,o2'⟩:=s2;have eg:g2=s.gens:=mv.gens;have ed:d2=s.drawn:=mv.drawn;have eo:o2'=s.os:=mv.os;subst eg ed eo;rw[JN,ai]at S2;refine hR h2 k2 ⟨o2,es2,ep2,t2,⟨S2.at_,S2.ex,S2.d,S2.c,S2.led,S2.pl,S2.p⟩⟩ λb o hb e=>mv.heap b o (λz=>?_) (ke e);rcases aW.mp z with z|z
  ·exact ak z (aR hb)
  ·exact ak (bg.mp z) (aR (dy hb))
theorem Ph{A:ay}{E:aa->ae->Prop}{Q:aa->ae->Prop}{a:Addr}{L:List (List Str×Addr)}(I:Inv X pins σ H s)(hh:A.handled=none)(hu:A.units+8<cLine)(hq:SqL X.K H a (L.map λq=>V.ref q.2)\/SqT X.K H a (L.map λq=>V.ref q.2))(h8:(uqP L).length<63)
  (ht:∀q∈L,∃p r,q.1=[p,r]/\SqT X.K H q.2 [.str p,.str r])
  (h:∀h2 k2 o es ep t,yR h2 s.heap.objs.size ((uqP L).map λq=>(TkS q.1,q.2)) (!X.w.params.followText "set-order") (uqP L).length o es ep t->(∀b o,b<s.heap.objs.size->s.heap.get? b=some o->h2.get? b=some o)->Q (.ref s.heap.objs.size) { s with heap:=h2,toks:=k2 }):
  af (model X.prog X.w) A (call (.type "set") [.ref a]) Q E s:=by
 have h3:A.in1.in1.in1.handled=none:=by simp[hh]
 have h4:A.in1.in1.in1.units<cLine:=by show A.units+1+1+1<cLine;omega
 have tk:∀q∈L,TK X.prog X.w s.heap (TkS q.1) q.2:=λq hq=>by obtain⟨p,r,e,h1⟩:=ht q hq;rw[e];exact Oj (ks:=[.inr p,.inr r]) I h1
 have ev:∀{its:List aa},Vals (L.map λq=>V.ref q.2) its->L.length=its.length/\∀(i:Nat) (v:aa),its[i]?=some v->∃q,L[i]?=some q/\v=.ref q.2:=λ{its} r=>by
  have li:L.length=its.length:=by have:=r.length;rw[ai]at this;exact this
  refine⟨li,λi v e=>?_⟩;have hi:i<L.length:=by rw[li];exact(bo.mp e).1
  obtain⟨u,e2,ru⟩:=r.get (i:=i) (x:=V.ref L[i].2) (by rw[bb,aS hi];rfl);rw[e]at e2;cases e2;exact⟨L[i],aS hi,ru⟩
 have it:∀{o:Obj} {led:Bool},o.isFreed=false->((s.heap.push (su led)).push o).get? (s.heap.objs.size+1)=some o:=λ{o led} z=>by rw[show s.heap.objs.size+1=(s.heap.push (su led)).objs.size from(eK _ _).symm];exact bx _ z
 have ht':∀q∈L,∃p r,q.1=[p,r]:=λq hq=>by obtain⟨p,r,e,_⟩:=ht q hq;exact⟨p,r,e⟩
 rcases hq with hq|hq
 ·obtain⟨its,r,pp,_⟩:=I.list hq;obtain⟨o,ho,hc,n,hd⟩:=pp.isList;have hne:a≠s.heap.objs.size+1:=aR (dy (aF ho));exact vy (PS:=λh2=>∃o es ep t,yR h2 s.heap.objs.size ((uqP L).map λq=>(TkS q.1,q.2)) (!X.w.params.followText "set-order") (uqP L).length o es ep t) ho hc ky jC (by decide) (itO:={ cls:=.type "list_iterator", data:=.fields #[.ref a,.int 0 0] })
   (λA Q E s1 e k=>fE ⟨o,e,hc,n,hd⟩ k) (λtk' R hR=>Gh (aF ho) ht' tk (ev r).2 (ev r).1 h8 h4 (gG h3 _ a hne its.toArray) ⟨⟨_,it rfl,rfl,rfl⟩,⟨o,aJ _ (aJ _ ho),hc,n,hd⟩⟩ hR tk') λh2 k2 ⟨o,es,ep,t,x⟩ kk=>h h2 k2 o es ep t x kk
 ·obtain⟨its,r,p,_⟩:=I.tuple hq;obtain⟨o,ho,hc,n,hd⟩:=p;have hne:a≠s.heap.objs.size+1:=aR (dy (aF ho));exact vy (PS:=λh2=>∃o es ep t,yR h2 s.heap.objs.size ((uqP L).map λq=>(TkS q.1,q.2)) (!X.w.params.followText "set-order") (uqP L).length o es ep t) ho hc sub_tuple_set sub_tuple_frozenset (by decide) (itO:={ cls:=.type "tuple_iterator", data:=.fields #[.ref a,.int 0 0] })
   (λA Q E s1 e k=>ia ⟨o,e,hc,n,hd⟩ k) (λtk' R hR=>Gh (aF ho) ht' tk (ev r).2 (ev r).1 h8 h4 (lr h3 _ a hne its.toArray) ⟨⟨_,it rfl,rfl,rfl⟩,⟨o,aJ _ (aJ _ ho),hc,n,hd⟩⟩ hR tk') λh2 k2 ⟨o,es,ep,t,x⟩ kk=>h h2 k2 o es ep t x kk
end
variable{e:Expr}{f f':FE}
section
variable{X:Cx}{G:Bg}
def dStrI:D->Option D
 |.int i=>if i.natAbs.log2<1920 then some (.str (toString i))else none
 |_=>none
theorem pf_b2{r:List V->Hp->VK->Prop}{g:Int->Int->Int}(hr:∀i j H Q,Q (.int (g i j)) H->r [.int i,.int j] H Q)(h:PE X e (tCB r (tFA G (aCons f (aCons f' ox))))):PE X e (tF G (c2 (λx y=>match x,y with|.int i,.int j=>some (.int (g i j))|_,_=>none) f f')):=PE.weak h λσ H Q hh=>by
 obtain⟨F,ρ,H0,d,ρ',R,e,k⟩:=hh;obtain⟨x,y,ρ1,e1,e2,e3⟩:=zV e;split at e3
 ·cases e3;rename_i i j;refine⟨F,ρ,H0,[.int i,.int j],ρ',R,by unfold aCons;rw[e1];simp only[e2];rfl,λys H1 H1' s R' rs=>?_⟩;unfold nM at rs;obtain⟨v,r0,rfl,rv,rn⟩:=rs;unfold nM at rn;obtain⟨v',r1,rfl,rv',rn'⟩:=rn;unfold nM at rn';subst rn';unfold Rep at rv rv';subst rv rv';exact hr i j _ _ (k _ _ _ s R' (pK _))
 ·cases e3
def dMax2:D->D->Option D:=λx y=>match x,y with|.int i,.int j=>some (.int (if j > i then j else i))|_,_=>none
def dMin2:D->D->Option D:=λx y=>match x,y with|.int i,.int j=>some (.int (if j<i then j else i))|_,_=>none
def iR2(f f':FE):FA:=λρ=>match f ρ with
 |some (.int i,ρ1)=>match f' ρ1 with
  |some (.int j,ρ2)=>if (-1000000<=i/\i<=1000000)/\-1000000<=j/\j<=1000000 then some (uW i (j - i).toNat,ρ2)else none
  |_=>none
 |_=>none
theorem pfi_range2{tg:Expr}(h:PI X tg e (Js (tFA G (aCons f (aCons f' ox))))):PI X tg e (tFI G (iR2 f f')):=PI.weak h λσ H R hh=>by
 obtain⟨F,ρ,H0,ds,ρ',R,e,k⟩:=hh;unfold iR2 at e;split at e
 ·rename_i i ρ1 e1;split at e
  ·rename_i j ρ2 e2;split at e
   ·rename_i hn;cases e;refine⟨F,ρ,H0,[.int i,.int j],_,R,by unfold aCons;rw[e1];simp only[e2];rfl,λxs H1 H1' s R' rs=>?_⟩;unfold nM at rs;obtain⟨v,r0,rfl,rv,rn⟩:=rs;unfold nM at rn;obtain⟨v',r1,rfl,rv',rn'⟩:=rn;unfold nM at rn';subst rn';unfold Rep at rv rv';subst rv rv';refine⟨i,j,rfl,⟨by omega,by omega,by omega,by omega⟩,?_⟩;exact k _ _ _ s R' AR
   ·cases e
  ·cases e
 ·cases e
end
section
variable{X:Cx}{B:Bz}{k:Nat}{e e' tg:Expr}{f f':FE}{p p2 p3 pos apos:Pos}
theorem zr_mxI [C:Cz X B k][N:Nb B "max"](hg:Gz X "max")(hs:ar [e,e'] X.env=[(false,eval e X.env),(false,eval e' X.env)])(hs':S1 X e')(ha:ZE X B e f)(hb:ZE X B e' f'):ZE X B (.Call (.Name "max" p) [e,e'] [] pos) (c2 dMax2 f f'):=
 ⟨pf_b2 (g:=λi j=>if j > i then j else i) (λi j H Q q=>⟨i,j,rfl,q⟩) (tW (DE C.c) hg (C.mg▸N.p) boot_max (pS ha.p (pS hb.p rD hs') (by rw[hs,hs'])) (by decide) (by decide) (by rw[hs,hs']) (by rw[hs'];rfl))⟩
theorem zr_mnI [C:Cz X B k][N:Nb B "min"](hg:Gz X "min")(hs:ar [e,e'] X.env=[(false,eval e X.env),(false,eval e' X.env)])(hs':S1 X e')(ha:ZE X B e f)(hb:ZE X B e' f'):ZE X B (.Call (.Name "min" p) [e,e'] [] pos) (c2 dMin2 f f'):=
 ⟨pf_b2 (g:=λi j=>if j<i then j else i) (λi j H Q q=>⟨i,j,rfl,q⟩) (tW (DF C.c) hg (C.mg▸N.p) boot_min (pS ha.p (pS hb.p rD hs') (by rw[hs,hs'])) (by decide) (by decide) (by rw[hs,hs']) (by rw[hs'];rfl))⟩
theorem zr_r2I [C:Cz X B k][N:Nb B "range"](hg:Gz X "range")(hs:ar [e,e'] X.env=[(false,eval e X.env),(false,eval e' X.env)])(hs':S1 X e')(ha:ZE X B e f)(hb:ZE X B e' f'):ZI X B tg (.Call (.Name "range" p) [e,e'] [] pos) (iR2 f f'):=⟨pfi_range2 (DC hg (C.mg▸N.p) (pS ha.p (pS hb.p rD hs') (by rw[hs,hs'])) hs hs')⟩
end
def tOr(t t':Ty->Option Bool):Ty->Option Bool:=λy=>match t y with
 |some true=>match t' y with
  |some _=>some true
  |none=>none
 |some false=>t' y
 |none=>none
section
variable{X:Cx}{B:Bz}{k i:Nat}{e:Expr}{f:FE}{a:FA}{x:Str}{p p2 p3 pos apos:Pos}
theorem zr_xsI{j:Int}{jj}(h:sees X i x=true)(he:ZE X B e f)(hs:swapsWithSole [.Subscript (.Name x p) (.Constant (.int j) jj p2) p3] e pos.line X.env=pure false)(hw:swappedStores [.Subscript (.Name x p) (.Constant (.int j) jj p2) p3] e X.env=pure none)
  (h1:(bU [.Subscript (.Name x p) (.Constant (.int j) jj p2) p3] X.env).map (·.2)=[assign (.Subscript (.Name x p) (.Constant (.int j) jj p2) p3) X.env]):ZS X B (.Assign [.Subscript (.Name x p) (.Constant (.int j) jj p2) p3] e pos) (sq i j f):=⟨D9 (Bm he.p (Eu (pvI h) Ep set_list) hs hw h1)⟩
theorem zr_xeI [C:Cz X B k](h:sees X i x=true)(hb:Az X (.Name x p) "extend")(hl:Ez apos pos)(hs:S1 X e)(ha:ZN X B e a):ZE X B (.Call (.Attribute (.Name x p) "extend" apos) [e] [] pos) (HX i a):=
 ⟨D1 (bmI hb hl hs gd gb jS DN (pvI h) (qY ha.p tV hs))⟩
end
section
variable{B:Bz}[Y:Yb B]{k np n:Nat}{b:FS}{x p:Str}{ps:List Str}{st s0:Stmt}{l:List Stmt}
theorem gM5(N:List Str){g:List D->List D->Option (D×List D)}(hg:g=fnM np n b)(q:GD B.G.K x st)(hl:oi st=s0::l)(hp:psO st=p::ps)(body:Bdz B N x st (s0::l) k b)(S:okO N (p::ps) st (np+1) n=true:=by kernel_rfl)(bd:Bds x x st (p::ps):=by (repeat intro _);rfl):Df B (k+1) x (spM B.G g):=
 ⟨_,gM hg Y.y q (okk S).1 (body.ok hl) (eS (okk S).2.1) (okk S).2.2 bd⟩
end
end L4
namespace L2
open PySem PySem.Spec PyProof.Rows PySem.W
abbrev vErr:List aa:=[.type "ValueError", .type "Exception", .type "BaseException", .type "object"]
def XC(K:aj)(C:Addr):Prop:=excIn K C vErr "ValueError.__new__" = true
theorem XC.obj{K:aj}{C:Addr}{h:Heap}(q:XC K C)(i:K.In h):OwnCls "x" C vErr "ValueError.__new__" (λ_=>some (.ref C)) h:=by
 refine⟨rfl,?_⟩;have q':excIn K C vErr "ValueError.__new__" = true:=q;unfold excIn at q';split at q'
 ·rename_i di dt sl lk;split at q'
  ·rename_i Cc tl a0 a1 a2 a3 nw a5 em es;simp only[aA,beq_iff_eq,c7]at q';obtain⟨⟨⟨⟨⟨h1,h2⟩,h3⟩,h4⟩,h5⟩,h6⟩:=q';cases dt with
   |mk nm bs mro ns qn hd sn sub ab col del=>cases h1;cases h2;have em':mro=_:=em;have hd':del=false:=h3;cases em';cases hd';obtain⟨ll⟩:=sl;have es':ll=_:=es;cases es';exact⟨tl,ns,nm,qn,bs,hd,sn,sub,ab,col,di,a0,a1,a2,a3,a5,_,i _ _ lk,.of_isNs (isNs_of_in i h5),nsMap_none_of_in i h5 h6,tail_of_in i h4⟩
  ·cases q'
 ·cases q'
structure Fly(P:aq)(w:ao)(C:Addr)(l:List Env)(H:Hp)(s:ae)(H':Hp)(a:Addr)(s':ae):Prop where
 ex:∃(B:Heap) (a0:aa),kZ B l a (.ref C) a0 s'.heap/\HOk P w H' B/\∀b o,s.heap.get? b=some o->b∉frs l->∃o',B.get? b=some o'
 os:s'.os=s.os
 bare:cX s'.gens
 un:Un (frs l) [] H H' s.heap s'.heap
def CXW(P:aq)(w:ao)(C:Addr):CXT:=λl H s E e s'=>∃a H',e=.ref a/\Fly P w C l H s H' a s'/\E e none H'
theorem un_step{l:List Env}{H H':Hp}{h h1 h2 B:Heap}(kb:∀b o,h.get? b=some o->b∉frs l->∃o',B.get? b=some o')(st:B.StaysIn h1)(st2:B.StaysIn h2)(ff:h1.FunFrames B l)(up:h1.UpToSlots h2)(u:Un (frs l) [] H H' h h1):Un (frs l) [] H H' h h2 where
 keep:=λb o q n hb hx=>by obtain⟨o',e⟩:=kb b o q hb;have e1:=u.keep b o q n hb hx;have e2:=st b o' e;rw[e1]at e2;cases e2;exact st2 b _ e
 slot:=λb o q n hb hx=>by obtain⟨sl,e1⟩:=u.slot b o q n hb hx;obtain⟨_,o1,e2,d⟩:=ff.mem hb;rw[e1]at e2;cases e2;obtain⟨sl',e3⟩:=up b _ e1 d;exact⟨sl',e3⟩
 free:=u.free
 there:=λb o q hx=>by
  by_cases hb:b∈frs l
  ·obtain⟨_,o1,e2,d⟩:=ff.mem hb;obtain⟨sl',e3⟩:=up b _ e2 d;exact⟨_,e3⟩
  ·obtain⟨o',e⟩:=kb b o q hb;exact⟨o',st2 b _ e⟩
 tups:=u.tups
 frzs:=u.frzs
 tbls:=u.tbls
variable{pins:List (Addr×Obj)}{σ:St}{H1:Hp}{s1:ae}
section
variable{P:aq}{w:ao}{K:aj}{mg:Str->Option aa}{base:Heap}{N:List Str}{qual:Str}{scope:bW}{f C:Addr}{cd:aa}{A:ay}{outer:List Env}{s:ae}{H:Hp}{E:XK}
abbrev cxW(C:Addr)(P:aq)(w:ao)(K:aj)(mg:Str->Option aa)(base:Heap)(N:List Str)(qual:Str)(scope:bW)(f:Addr)(cd:aa)(A:ay)(outer:List Env)(s:ae)(H:Hp)(E:XK):Cx:=zK (CXW P w C) P w K mg base N qual scope f cd A outer s H E
theorem kb_out{B:Heap}(I:Inv (cxW C P w K mg base N qual scope f cd A outer s H E) pins σ H1 s1)(kb:∀b o,s1.heap.get? b=some o->b∉frs (cxW C P w K mg base N qual scope f cd A outer s H E).stack->∃o',B.get? b=some o'):
  ∀b o,s.heap.get? b=some o->b∉frs outer->∃o',B.get? b=some o':=λb o q hb=>by
 obtain⟨o1,e1⟩:=I.base.there b o q (λz=>nomatch z);refine kb b o1 e1 λhm=>?_;rcases aW.mp (I.stkSub b hm)with z|z
 ·exact ak (bN (aF q) I.ok.above) (by rw[z];exact dG _)
 ·exact hb z
theorem pass_body:Passes (CXW P w C) (cxW C P w K mg base N qual scope f cd A outer s H E) (λ_ _ H'=>∀e,E e none H'):=λpins σ H1 s1 e s' I h=>by obtain⟨a,H',rfl,fl,z⟩:=h;obtain⟨B,a0,hf,hok,kb⟩:=fl.ex;refine wpAny_leaves_onW I.ok.frames rfl hf λh2 hf2 up=>?_;have u:=un_step kb hf.1 hf2.1 hf.2.2.1 up fl.un;have J:=I.call' (s':={ s' with heap:=h2 }) (ch:=[]) fl.os u (hok.kept hf2.1) fl.bare λ_ z=>nomatch z;exact⟨a,H',rfl,⟨⟨B,a0,hf2,hok,kb_out I kb⟩,J.os,J.bare,J.base⟩,z _⟩
theorem made_body{a:Addr}{vs:List aa}{h':Heap}(I:Inv (cxW C P w K mg base N qual scope f cd A outer s H E) pins σ H1 s1)(hx:kB s1.heap h' a (.ref C) vs)(z:∀e,E e none H1):
  (cxW C P w K mg base N qual scope f cd A outer s H E).xe (.ref a) { s1 with heap:=h' }:=by
 have hin:∀env∈(cxW C P w K mg base N qual scope f cd A outer s H E).stack,∀b,env.frame=some b->b∈frs (cxW C P w K mg base N qual scope f cd A outer s H E).stack:=λenv he b hb=>cN.mpr ⟨env,he,hb⟩;have ff:=funFrames_hide I.stack hin;have kb:∀b o,s1.heap.get? b=some o->b∉frs (cxW C P w K mg base N qual scope f cd A outer s H E).stack->∃o',(hideAll s1.heap (frs (cxW C P w K mg base N qual scope f cd A outer s H E).stack)).get? b=some o':=λb o q n=>⟨o,iO _ q n⟩;have hok:HOk P w H1 (hideAll s1.heap (frs (cxW C P w K mg base N qual scope f cd A outer s H E).stack)):=λb o e=>(I.hok b o e).stay (λc u hc q=>iO _ q λhm=>by
  have n:=I.stkFree c hm;rcases hc with rfl|hc
  ·rw[e]at n;cases n
  ·rw[hc]at n;cases n) (λ_ q=>q) λ_ _ q=>q
 refine wpAny_leaves_madeW (h:=s1.heap) I.ok.frames rfl (λb o q=>iY _ q) ff hx λh2 t hf2 _ _ up=>?_;have u:=un_step kb (λb o q=>hx.keeps b o (iY _ q)) hf2.1 (ff.of_keeps λb o q _=>⟨o,hx.keeps b o q,rfl⟩) up (Un.kept (fs:=frs (cxW C P w K mg base N qual scope f cd A outer s H E).stack) (ex:=[]) (H:=H1) hx.keeps);have J:=I.call' (s':={ s1 with heap:=h2 }) (ch:=[]) rfl u (hok.kept hf2.1) I.bare λ_ z=>nomatch z;exact⟨a,H1,rfl,⟨⟨_,_,hf2,hok,kb_out I kb⟩,J.os,J.bare,J.base⟩,z _⟩
end
def Mades(X:Cx)(C:Addr)(Z:Hp->Prop):Prop:=∀(pins:List (Addr×Obj)) (σ:St) (H:Hp) (s:ae) (a:Addr) (vs:List aa) (h':Heap),Inv X pins σ H s->kB s.heap h' a (.ref C) vs->Z H->X.xe (.ref a) { s with heap:=h' }
section
variable{X:Cx}{C:Addr}{Z:Hp->Prop}{x:Str}{np cpos pos:Pos}{e:Expr}{es:List Expr}{t:TA}
theorem ps_raise(q:XC X.K C)(hc:X.calm=true)(hm:X.mg x=some (.ref C))(mk:Mades X C Z)(ha:PA X (e::es) t)(hg:Gl X x)(hdb:(x==("__debug__" : Str))=false)(he:ar (e::es) X.env=(false,eval e X.env)::ar es X.env)(hpl:(aX cpos (ar es X.env)).any (·.1)=false):
  PS X (.Raise (some (.Call (.Name x np) (e::es) [] cpos)) none pos) (λ_ σ H=>t σ H λvs H1=>vs.length<=az/\Z H1):=by
 intro pins s σ H D I h;obtain⟨bm,N,nm,qn,bs,hd,sn,sub,ab,col,dd,k0,k1,k2,k3,k5,mN,hC,hN,hni,T⟩:=(q.obj I.mod.kin).obj;have hb:bm.contains (.type "BaseException")=true:=T.hasType (b:=true) rfl;refine wpAny_Raise_call_subU (nm:=nm) (q:=qn) (N:=N) (bs:=bs) (hdct:=hd) (sn:=sn) (sub:=sub) (ab:=ab) (col:=col) (dd:=dd) (k0:=k0) (k1:=k1) (k2:=k2) (k3:=k3) (k5:=k5) jE rfl jE hb (I.ok.hd hc) (by rw[he];show (false||(aX cpos (ar es X.env)).any (·.1))=false;rw[hpl];rfl) hni (sQ I hg hm ⟨rfl,?_⟩ hdb)
 rw[he];have h2:=ha cpos pins s σ H _ I h;rw[he]at h2;refine hG (thn h2 λus s2 zz=>?_);obtain⟨vs,H2,I2,r,l2,z⟩:=zz;refine⟨rfl,by rw[<-r.length];exact l2,I2.bk _ _ hC,hN.keeps I2.bk,T.keeps I2.bk,λh' a hx=>mk pins σ H2 s2 a us h' I2 hx z⟩
end
abbrev Cx.caught(X:Cx)(v:aa):Cx:={ X with A:=X.A.mark (some v),calm:=false,xe:=λ_ _=>False }
theorem Inv.caught{X:Cx}{H:Hp}{s:ae}(I:Inv X pins σ H s)(v:aa):Inv (X.caught v) pins σ H s:=
 ⟨⟨I.ok.mod,I.ok.kind,I.ok.glob,I.ok.blt,I.ok.above,I.ok.inj,I.ok.has,I.ok.cab,(λz=>by cases z),I.ok.frames,I.ok.stk,I.ok.exf,I.ok.bs,I.ok.bsz,I.ok.noex,I.ok.exfs,I.ok.funs,I.ok.frf⟩,I.os,I.bare,I.base,I.loc,I.cell,I.free,I.freeC,I.pin,I.hok,I.len⟩
variable{fl:Flow}{xe:aa->ae->Prop}
section
variable{X:Cx}{pins:List (Addr×Obj)}{σ:St}{H:Hp}{s:ae}
theorem Inv.uncaught{v:aa}(ok:X.Ok)(I:Inv (X.caught v) pins σ H s):Inv X pins σ H s:=⟨ok,I.os,I.bare,I.base,I.loc,I.cell,I.free,I.freeC,I.pin,I.hok,I.len⟩
theorem SP.uncaught{v:aa}{D:Ends}(ok:X.Ok)(h:SP (X.caught v) pins D fl s):SP X pins D fl s:=by
 cases fl with
 |next=>obtain⟨σ',H',I,q⟩:=h;exact⟨σ',H',I.uncaught ok,q⟩
 |brk=>obtain⟨σ',H',I,q⟩:=h;exact⟨σ',H',I.uncaught ok,q⟩
 |cont=>obtain⟨σ',H',I,q⟩:=h;exact⟨σ',H',I.uncaught ok,q⟩
 |ret u=>obtain⟨v,σ',H',I,r,q⟩:=h;exact⟨v,σ',H',I.uncaught ok,r,q⟩
theorem PA.lift{es:List Expr}{t:TA}(h:PA X es t)(n:∀e s,¬X.xe e s):PA (X.wish xe) es t:=λpos pins s σ H Q I hw=>
 br (h pos pins s σ H Q I.unwish hw) (λ_ _ ⟨v,H',I',r,q⟩=>⟨v,H',I'.wish xe,r,q⟩) λe s z=>(n e s z).elim
theorem PT.lift{e:Expr}{t:TT}(h:PT X e t)(n:∀e s,¬X.xe e s):PT (X.wish xe) e t:=λpins s σ H Q I hw=>
 br (h pins s σ H Q I.unwish hw) (λ_ _ ⟨H',I',q⟩=>⟨H',I'.wish xe,q⟩) λe s z=>(n e s z).elim
theorem SP.wish{D:Ends}(xe:aa->ae->Prop)(h:SP X pins D fl s):SP (X.wish xe) pins D fl s:=by
 cases fl with
 |next=>obtain⟨σ',H',I,q⟩:=h;exact⟨σ',H',I.wish xe,q⟩
 |brk=>obtain⟨σ',H',I,q⟩:=h;exact⟨σ',H',I.wish xe,q⟩
 |cont=>obtain⟨σ',H',I,q⟩:=h;exact⟨σ',H',I.wish xe,q⟩
 |ret u=>obtain⟨v,σ',H',I,r,q⟩:=h;exact⟨v,σ',H',I.wish xe,r,q⟩
theorem PS.lift{st:Stmt}{t:TS}(h:PS X st t)(n:∀e s,¬X.xe e s):PS (X.wish xe) st t:=λpins s σ H D I hw=>
 br (h pins s σ H D I.unwish hw) (λ_ _ q=>q.wish xe) λe s z=>(n e s z).elim
end
section
variable{X:Cx}{CX:CXT}{k:Nat}{f C C0:Addr}{fd:bu}{ps:List Str}{sp:Sp}{dvs:List V}{ds:List aa}{E:XK}{x y:Str}{p np pos pos1 pos2 hp:Pos}{e:Expr}{es:List Expr}{t:TA}{b0:Stmt}{suite:List Stmt}{th:TS}
theorem run_makeX{H:Hp}{s:ae}{Q:VK}{us:List aa}{vs:List V}(M:Mk X.K C0 f)(F:qD X.prog X.w X.K X.mg X.base CX k f fd ps sp)(hr:pf (k+1) X.A)(hb:Binds X.K fd ps ds)(hd:Vals dvs ds)
  (hx:∀H2 s2 e s',Inv X pins σ H2 s2->CX X.stack H2 s2 E e s'->X.xe e s') (I:Inv X pins σ H s) (r:Vals vs us)
  (h:∀x dx,H x=none->H dx=none->dx≠x->sp (.ref x::(vs++dvs)) (upd (upd H dx (.own x)) x (.ins C0 dx [])) (λv H2=>v=.non/\Q (.ref x) H2) E):
  af (model X.prog X.w) X.A (call (.ref C0) us) (EP X pins σ Q) X.xe s:=by
 have hq:=h (s.heap.objs.size+1) s.heap.objs.size (I.hok.fresh (gz _)) (I.hok.fresh (aC _)) (aR (dU _));have I2:=Inv.made (C:=C0) I;have r2:Vals (V.ref (s.heap.objs.size+1)::(vs++dvs)) (Value.ref (s.heap.objs.size+1)::(us++ds)):=.cons rfl (r.append hd);have hl:(Value.ref (s.heap.objs.size+1)::us++ds).length=ps.length:=by have e:=r2.length;rw[F.len _ _ _ _ hq]at e;exact e.symm
 refine gB (Aq (f:=f) I.kIn M.makes M.init (beq_iff_eq.mp M.fn) (ee (F.run _ X.stack _ _ ⟨Value.ref (s.heap.objs.size+1)::us,[]⟩ (Value.ref (s.heap.objs.size+1)::(us++ds)) _ _ E (hr.make C0 us [])
  (I2.env0.make C0 us []) (hb _ (Value.ref (s.heap.objs.size+1)::us) I2.kIn hl) r2 hq) λr s' hq'=>?_))
 cases r with
 |error e=>exact hx _ _ e s' I2 hq'
 |ok fl=>
  cases fl with
  |ret u=>obtain⟨v,H',I3,rv,ev,q3⟩:=I2.after hq';subst ev;exact⟨rv,⟨V.ref (s.heap.objs.size+1),H',I3,rfl,q3⟩⟩
  |next=>exact bQ hq'
  |brk=>exact bQ hq'
  |cont=>exact bQ hq'
theorem ps_try(hst:X.stack=X.env::X.outer)(hfm:X.env.frame=some X.env.locals)(hn0:∀e s,¬X.xe e s)(q:XC X.K C)(hg':Gl X y)(hm':X.mg y=some (.ref C))(hdb':(y==("__debug__" : Str))=false)
  (M:Mk X.K C0 f) (F:qD X.prog X.w X.K X.mg X.base (CXW X.prog X.w C) k f fd ps sp) (hr:pf (k+1) X.A) (hb:Binds X.K fd ps ds) (hd:Vals dvs ds) (hg:Gl X x) (hm:X.mg x=some (.ref C0)) (ha:PA X (e::es) t) (hdb:(x==("__debug__" : Str))=false)
  (he:ar (e::es) X.env=(false,eval e X.env)::ar es X.env) (hpl:(aX pos (ar es X.env)).any (·.1)=false) (hsw:b9 (.Call (.Name x p) (e::es) [] pos) none pos1.line X.env=pure false) (hs:∀v,PSs (X.caught v) (b0::suite) th):
  PS X (.Try [.Expr (.Call (.Name x p) (e::es) [] pos) pos1] [.ExceptHandler (some (.Name y np)) none (b0::suite) hp] [] [] pos2) (λD σ H=>Cf C0 sp dvs (λ_ _ H'=>th D σ H') t σ H λ_ H1=>D.nx σ H1):=by
 intro pins s σ H D I h;refine wpAny_Try_except ?_;let XE:aa->ae->Prop:=λe s₁=>af (model X.prog X.w) X.A (noteFrame e X.env) (λ_ s₂=>af (model X.prog X.w) X.A (setFlight e none) (λ_ s₃=>af (model X.prog X.w) X.A (handleBy e X.env [.ExceptHandler (some (.Name y np)) none (b0::suite) hp]) (SP X pins D) X.xe s₃) X.xe s₂) X.xe s₁;have hx:∀H2 s2 e s',Inv (X.wish XE) pins σ H2 s2->CXW X.prog X.w C X.stack H2 s2 (λ_ _ H'=>th D σ H') e s'->XE e s':=by
  intro H2 s2 ev s' J hc;obtain⟨a,H',rfl,fl,z⟩:=hc;obtain⟨B,a0,hf,hok,kb⟩:=fl.ex;have hfr:X.A.frames=some (X.env::X.outer):=by rw[<-hst];exact I.ok.frames
  have hf':kZ B (X.env::X.outer) a (.ref C) a0 s'.heap:=by rw[<-hst];exact hf
  refine wpAny_looks_onW hfr hfm hf' λh4 hh4 up4=>wpAny_landsW hh4 λh5 hf5 up5=>?_;have u5:=un_step kb hf.1 hf5.1 hf.2.2.1 (up4.trans up5) fl.un;have J5:=(J.call' (s':={ s' with heap:=h5 }) (ch:=[]) fl.os u5 (hok.kept hf5.1) fl.bare λ_ z=>nomatch z).unwish;refine wpAny_handleBy_cons (codeAny_handlers_test (sQ (X:=X.caught (.ref a)) (J5.caught _) hg' hm' ?_ hdb')) (by intro q;cases q);obtain⟨bm,N,nm,qn,bs,hd,sn,sub,ab,col,dd,k0,k1,k2,k3,k5,mN,hC,hN,hni,T⟩:=(q.obj I.mod.kin).obj;have hbm:bm.contains (.type "BaseException")=true:=T.hasType (b:=true) rfl;obtain⟨ob,hob,hobc⟩:=hf5.there;refine wpAny_excMatches_sub_self (J5.bk _ _ hC) hob hobc hbm (codeAny_handlers_suite ?_);refine lands_againW hf5 λh6 hf6 up6=>?_;have u6:=un_step kb hf.1 hf6.1 hf.2.2.1 ((up4.trans up5).trans up6) fl.un;have J6:=(J.call' (s':={ s' with heap:=h6 }) (ch:=[]) fl.os u6 (hok.kept hf6.1) fl.bare λ_ z=>nomatch z).unwish;exact br (hs (.ref a) pins _ σ H' D (J6.caught _) z) (λfl s7 hq=>hq.uncaught I.ok) λ_ _ z=>z.elim
 have key:af (model X.prog X.w) X.A (eval (.Call (.Name x p) (e::es) [] pos) X.env) (EP (X.wish XE) pins σ λ_ H1=>D.nx σ H1) XE s:=by refine dv (sQ I hg hm ?_ hdb);refine gu (h₀:=X.base) I.ok.mod.kin M.kp (thn ((ha.lift hn0) pos pins s σ H _ (I.wish XE) h) λus s1 ⟨vs,H1,I1,r,q⟩=>⟨I1.kIn,?_⟩) he hpl;exact run_makeX (X:=X.wish XE) M F hr hb hd hx I1 r q
 have key2:af (model X.prog X.w) X.A (exec (.Expr (.Call (.Name x p) (e::es) [] pos) pos1) X.env) (SP X pins D) XE s:=kr (thn key λv s1 ⟨x,H1,I1,r1,q1⟩=>⟨σ,H1,I1.unwish,q1⟩) I.quiet hsw;refine iu (thn key2 λf s1 q=>?_);cases f with
 |next=>exact fJ (fJ q)
 |ret v=>exact q
 |brk=>exact q
 |cont=>exact q
end
end L2
namespace L4
open PySem PySem.Spec PyProof.Rows L2 L3
def zE(E:Ends)(Z:Hp->Prop):Ends:={ nx:=E.nx,rt:=E.rt,bk:=λ_ H=>Z H,ct:=E.ct }
def tFX(G:Bg)(Z:Hp->Prop)(f:FS):TS:=λE σ H=>tFS G f (zE E Z) σ H
def sNb(f:FS):FS:=λρ=>match f ρ with
 |some (.bk _)=>none
 |r=>r
def sRz(a:FA):FS:=λρ=>match a ρ with
 |some ([_],ρ')=>some (.bk ρ')
 |_=>none
def sXp(g:List D->Option Bool)(a:FA):FS:=λρ=>match a ρ with
 |some (ds,ρ')=>match g ds with
  |some true=>some (.nx ρ')
  |some false=>some (.bk ρ')
  |none=>none
 |none=>none
def fnX(np n:Nat)(f:FS):List D->Option Bool:=λds=>if ds.length=np then match f (stE n ds)with
 |some (.nx _)=>some true
 |some (.bk _)=>some false
 |_=>none
 else none
def fnXI(c np n:Nat)(f:FS):List D->Option (Option (List Str×List D)):=λds=>if ds.length=np then match f (stI c n ds)with
 |some (.bk _)=>some none
 |some (.nx _)=>match fnI c np n f ds with
  |some r=>some (some r)
  |none=>none
 |_=>none
 else none
def sTry(g:List D->Option (Option (List Str×List D)))(a:FA)(fh:FS):FS:=λρ=>match a ρ with
 |some (ds,ρ')=>match g ds with
  |some (some _)=>some (.nx ρ')
  |some none=>fh ρ'
  |none=>none
 |none=>none
def spX(G:Bg)(g:List D->Option Bool):Sp:=λvs H Q E=>∃H0 ds d,nR H0 H/\nM G H0 ds vs/\g ds=some d/\
 (d=true->∀H0' H',nR H0 H0'->nR H0' H'->nR H H'->(∀b o,H0' b=some o->H0 b=some o\/H b=none)->Q .non H')/\(d=false->∀e H',nR H H'->E e none H')
def spXI(G:Bg)(c:Nat)(g:List D->Option (Option (List Str×List D))):Sp:=λvs H Q E=>∃(p dx:Addr) (us:List V) (H0:Hp) (ds:List D),vs=.ref p::us/\H p=some (.ins (G.ca c) dx [])/\H0 p=none/\nR H0 H/\nM G H0 ds us/\
 ((∃ns es,g ds=some (some (ns,es))/\∀ys dx' H0' H',nR H0 H0'->nR H0' H'->(∀b o,H b=some o->b≠p->H' b=some o)->(∀b o,H0' b=some o->H0 b=some o\/H b=none)->H0' p=none->H' p=some (.ins (G.ca c) dx' (ns.zip ys))->ns.length=ys.length->nM G H0' es ys->Q .non H')
  \/ (g ds=some none/\∀e H',(∀b o,H b=some o->b≠p->H' b=some o)->E e none H'))
variable{c np:Nat}{ds:List D}{N:List Str}{vs:List V}{E:XK}
section
variable{X:Cx}{G:Bg}{Z:Hp->Prop}
theorem tFS_zE{f:FS}{Q:VK}{nx:St->Hp->Prop}{σ:St}{H:Hp}(h:tFS G f { nx:=nx,rt:=Q } σ H):tFX G Z f { nx:=nx,rt:=Q } σ H:=by
 obtain⟨F,ρ,H0,o,R,e,k,_⟩:=h;refine⟨F,ρ,H0,o,R,e,?_,λ_=>rfl⟩;cases o with
 |bk ρ'=>exact λσ' H0' H' s' R'=>(k σ' H0' H' s' R').elim
 |nx ρ'=>exact k
 |ct ρ'=>exact k
 |rt d ρ'=>exact k
 |rn d ρ'=>exact k
theorem pfx_nil:PSs X [] (tFX G Z pG):=PSs.weak B8 λE σ H h=>EZ (E:=zE E Z) h
theorem pfx_cons{st:Stmt}{rest:List Stmt}{f g:FS}(h1:PS X st (tFX G Z f))(h2:PSs X rest (tFX G Z g)):PSs X (st::rest) (tFX G Z (nP f g)):=PSs.weak (ve h1 h2) λE σ H h=>by
 obtain⟨F,ρ,H0,o,R,e,k,k2⟩:=h;unfold nP at e;cases e1:f ρ with
 |none=>simp only[e1]at e;cases e
 |some o1=>
  cases o1 with
  |nx ρ1=>simp only[e1]at e;exact⟨F,ρ,H0,_,R,e1,λσ' H0' H' s R'=>⟨F,ρ1,H0',o,R',e,k.back s,λ_=>rfl⟩,λ_=>rfl⟩
  |bk ρ1=>simp only[e1]at e;cases e;exact⟨F,ρ,H0,_,R,e1,k,λ_=>rfl⟩
  |ct ρ1=>simp only[e1]at e;cases e;exact⟨F,ρ,H0,_,R,e1,k,λ_=>rfl⟩
  |rt d ρ1=>simp only[e1]at e;cases e;exact⟨F,ρ,H0,_,R,e1,k,λ_=>rfl⟩
  |rn d ρ1=>simp only[e1]at e;cases e;exact⟨F,ρ,H0,_,R,e1,k,λ_=>rfl⟩
theorem pfx_up{st:Stmt}{f:FS}(h:PS X st (tFS G f)):PS X st (tFX G Z (sNb f)):=PS.weak h λE σ H hh=>by
 obtain⟨F,ρ,H0,o,R,e,k,_⟩:=hh;unfold sNb at e;cases e1:f ρ with
 |none=>simp only[e1]at e;cases e
 |some o1=>
  cases o1 with
  |bk ρ1=>simp only[e1]at e;cases e
  |nx ρ1=>simp only[e1]at e;cases e;exact⟨F,ρ,H0,_,R,e1,k,λ_=>rfl⟩
  |ct ρ1=>simp only[e1]at e;cases e;exact⟨F,ρ,H0,_,R,e1,k,λ_=>rfl⟩
  |rt d ρ1=>simp only[e1]at e;cases e;exact⟨F,ρ,H0,_,R,e1,k,λ_=>rfl⟩
  |rn d ρ1=>simp only[e1]at e;cases e;exact⟨F,ρ,H0,_,R,e1,k,λ_=>rfl⟩
theorem pfx_if{c:Expr}{a b:List Stmt}{h:FT}{f g:FS}{pos:Pos}(hc:PT X c (tFT G h))(ha:PSs X a (tFX G Z f))(hb:PSs X b (tFX G Z g)):PS X (.If c a b pos) (tFX G Z (sIf h f g)):=PS.weak (Jp hc ha hb) λE σ H hh=>by
 obtain⟨F,ρ,H0,o,R,e,k,k2⟩:=hh;unfold sIf at e;rcases n4 (f:=h) (ρ:=ρ)with e1|⟨d,ρ',e1⟩
 ·simp only[e1]at e;cases e
 ·refine⟨F,ρ,H0,d,ρ',R,e1,λH0' H' s R'=>?_⟩;cases d with
  |true=>simp only[e1]at e;exact AD ⟨F,ρ',H0',o,R',e,k.back s,λ_=>rfl⟩
  |false=>simp only[e1]at e;exact AC ⟨F,ρ',H0',o,R',e,k.back s,λ_=>rfl⟩
theorem pfx_raise{st:Stmt}{a:FA}(h:PS X st (λ_ σ H=>tFA G a σ H λvs H1=>vs.length<=az/\Z H1)):PS X st (tFX G Z (sRz a)):=PS.weak h λE σ H hh=>by
 obtain⟨F,ρ,H0,o,R,e,k,k2⟩:=hh;unfold sRz at e;split at e
 ·rename_i d ρ' e1;cases e;refine⟨F,ρ,H0,_,ρ',R,e1,λxs H0' H' s R' rs=>⟨?_,k σ H0' H' s R'⟩⟩;rw[<-nL rs];show 1<=az;decide
 ·cases e
theorem pfx_call{st:Stmt}{g:List D->Option Bool}{a:FA}(h:PS X st (Es (uF (spX G g) [] (λ_ _ H'=>Z H') (tFA G a)))):PS X st (tFX G Z (sXp g a)):=PS.weak h λE σ H hh=>by
 obtain⟨F,ρ,H0,o,R,e,k,k2⟩:=hh;unfold sXp at e;rcases n4 (f:=a) (ρ:=ρ)with e1|⟨ds,ρ',e1⟩<;>simp only[e1]at e
 ·cases e
 ·refine⟨F,ρ,H0,ds,ρ',R,e1,λxs H1 H1' s R' rs=>?_⟩;cases e2:g ds with
  |none=>simp only[e2]at e;cases e
  |some d=>
   refine⟨H1,ds,d,R'.sub,by rw[bK];exact rs,e2,λhd H2 H2' s1 s2 s3 fr=>?_,λhd ev H2' s3=>?_⟩
   ·subst hd;simp only[e2]at e;cases e;exact k σ H2 H2' (s.trans s1) (R'.grow s3 s1 s2 fr)
   ·subst hd;simp only[e2]at e;cases e;exact k σ H1 H2' s (R'.grow s3 (nR.refl _) (R'.sub.trans s3) λb o e=>.inl e)
theorem pfx_try{st:Stmt}{g:List D->Option (Option (List Str×List D))}{a:FA}{fh:FS}(h:PS X st (λD σ H=>Cf (G.ca c) (spXI G c g) [] (λ_ _ H'=>tFS G fh D σ H') (tFA G a) σ H λ_ H1=>D.nx σ H1)):PS X st (tFS G (sTry g a fh)):=PS.weak h λE σ H hh=>by
 obtain⟨F,ρ,H0,o,R,e,k,k2⟩:=hh;unfold sTry at e;rcases n4 (f:=a) (ρ:=ρ)with e1|⟨ds,ρ',e1⟩<;>simp only[e1]at e
 ·cases e
 ·refine⟨F,ρ,H0,ds,ρ',R,e1,λxs H1 H1' s R' rs x dx hx hdx ne=>?_⟩;have hx2:(upd H1' dx (.own x)) x=none:=by rw[nT (λz=>ne z.symm)];exact hx
  have sx:nR H1' (upd (upd H1' dx (.own x)) x (.ins (G.ca c) dx [])):=(og hdx _).trans (og hx2 _);refine⟨x,dx,_,H1,ds,rfl,nW,R'.h0none hx,R'.sub.trans sx,by rw[bK];exact rs,?_⟩;cases e2:g ds with
  |none=>simp only[e2]at e;cases e
  |some r=>
   cases r with
   |none=>simp only[e2]at e;refine .inr ⟨rfl,λev H2' t3=>?_⟩;have t4:nR H1' H2':=λb o e=>t3 b o (sx b o e) (pB e hx);exact⟨F,ρ',H1,o,R'.grow t4 (nR.refl _) (R'.sub.trans t4) (λb o e=>.inl e),e,k.back s,λ_=>rfl⟩
   |some q=>
    obtain⟨ns,es⟩:=q;simp only[e2]at e;cases e;refine .inl ⟨ns,es,rfl,λys dx' H2 H2' t1 t2 t3 fr h0 hp hl ry=>⟨rfl,?_⟩⟩;have t4:nR H1' H2':=λb o e=>t3 b o (sx b o e) (pB e hx);have fr1:∀b o,H2 b=some o->H1 b=some o\/H1' b=none:=λb o e=>by
     rcases fr b o e with q|q
     ·exact .inl q
     ·cases z:H1' b with
      |none=>exact .inr rfl
      |some u=>rw[sx b u z]at q;cases q
    exact k σ H2 H2' (s.trans t1) (R'.grow t4 t1 t2 fr1)
theorem fnX_some{n:Nat}{f:FS}{d:Bool}(h:fnX np n f ds=some d):ds.length=np/\((∃ρ,f (stE n ds)=some (.nx ρ)/\d=true)\/∃ρ,f (stE n ds)=some (.bk ρ)/\d=false):=by
 unfold fnX at h;split at h
 ·rename_i hl;refine⟨hl,?_⟩;split at h
  ·rename_i e;cases h;exact .inl ⟨_,e,rfl⟩
  ·rename_i e;cases h;exact .inr ⟨_,e,rfl⟩
  ·cases h
 ·cases h
theorem entry_X{f:FS}{H:Hp}{Q:VK}(hN:np<=N.length)(h:spX G (fnX np N.length f) vs H Q E):tFX G (λH'=>∀e,E e none H') f { nx:=λ_ H'=>Q .non H',rt:=Q } (L2.start N vs) H:=by
 obtain⟨H0,ds,d,s,r,e,k1,k2⟩:=h;obtain⟨hl,e'⟩:=fnX_some e;have R:=vZ (N:=N) s r (by rw[<-nL r,hl];exact hN);have fin:∀{σ':St} {ρ':List Sl} {H0' H':Hp},nY G ⟨H0,H,[]⟩ σ' ρ' H0' H'->nR H H'/\nR H0' H'/\∀b o,H0' b=some o->H0 b=some o\/H b=none:=λR'=>⟨λb o e=>R'.keep b o e (by simp),R'.sub,R'.fr⟩;clear e;rcases e' with ⟨ρ,e,rfl⟩|⟨ρ,e,rfl⟩
 ·refine⟨_,_,H0,_,R,e,λσ' H0' H' s' R'=>?_,λ_=>rfl⟩;obtain⟨h1,h2,h3⟩:=fin R';exact k1 rfl H0' H' s' h2 h1 h3
 ·refine⟨_,_,H0,_,R,e,λσ' H0' H' s' R' ev=>?_,λ_=>rfl⟩;exact k2 rfl ev H' (fin R').1
theorem len_X{g:List D->Option Bool}(hg:∀ds d,g ds=some d->ds.length=np):∀vs H Q E,spX G g vs H Q E->vs.length=np:=λvs H Q E h=>by obtain⟨H0,ds,d,_,r,e,_⟩:=h;rw[<-nL r];exact hg _ _ e
theorem relI{p dx:Addr}{us:List V}{H0 H:Hp}(hN:us.length+1<=N.length)(hp:H p=some (.ins (G.ca c) dx []))(h0:H0 p=none)(s:nR H0 H)(r:nM G H0 ds us):nY G ⟨H0,H,[p]⟩ (L2.start N (.ref p::us)) (stI c N.length ds) H0 H:=by
 have gets:∀{i:Nat} {t:Sl},(stI c N.length ds)[i]?=some t->(i=0/\t=.ob c [] [])\/t=.un\/∃(j:Nat) (d:D),i=j+1/\ds[j]?=some d/\t=.im d:=λ{i t} e=>by
  cases i with
  |zero=>cases e;exact .inl ⟨rfl,rfl⟩
  |succ j=>
   have e':(stE (N.length - 1) ds)[j]?=some t:=e;rcases vp e' with rfl|⟨d,e1,rfl⟩
   ·exact .inr (.inl rfl)
   ·exact .inr (.inr ⟨j,d,rfl,e1,rfl⟩)
 exact {
  sub:=s
  g0:=nR.refl _
  keep:=λb o e _=>e
  fr:=λb o e=>.inl e
  am:=λa ha=>by
   have ea:a=p:=by simpa using ha
   subst ea;exact⟨_,hp⟩
  len:=by unfold L2.start stI stE;simp only[aB,ai,bX,aE];have:=nL r;omega
  sl:=λi t e=>by
   rcases gets e with ⟨rfl,rfl⟩|rfl|⟨j,d,rfl,e1,rfl⟩
   ·exact⟨p,dx,[],qR rfl,hp,h0,by simp,rfl,ot⟩
   ·trivial
   ·obtain⟨v,e2,e3⟩:=ra r e1;exact⟨v,qR (by simpa using e2),e3⟩
  ap:=λi j t u a hij ei ej ht hu=>by
   rcases gets ei with ⟨rfl,rfl⟩|rfl|⟨_,_,_,_,rfl⟩
   ·rcases gets ej with ⟨rfl,rfl⟩|rfl|⟨_,_,_,_,rfl⟩
    ·exact ak rfl hij
    ·cases hu
    ·cases hu
   ·cases ht
   ·cases ht }
theorem fnXI_some{n:Nat}{f:FS}{r:Option (List Str×List D)}(h:fnXI c np n f ds=some r):ds.length=np/\((∃ρ,f (stI c n ds)=some (.bk ρ)/\r=none)\/∃q,fnI c np n f ds=some q/\r=some q):=by
 unfold fnXI at h;split at h
 ·rename_i hl;refine⟨hl,?_⟩;split at h
  ·rename_i e;cases h;exact .inl ⟨_,e,rfl⟩
  ·split at h
   ·rename_i e;cases h;exact .inr ⟨_,e,rfl⟩
   ·cases h
  ·cases h
 ·cases h
theorem entry_XI{f:FS}{H:Hp}{Q:VK}(hN:np+1<=N.length)(h:spXI G c (fnXI c np N.length f) vs H Q E):tFX G (λH'=>∀e,E e none H') f { nx:=λ_ H'=>Q .non H',rt:=Q } (L2.start N vs) H:=by
 obtain⟨p,dx,us,H0,ds,rfl,hp,h0,s,r,k⟩:=h;rcases k with ⟨ns,es,e,k⟩|⟨e,k⟩
 ·obtain⟨hl,e'⟩:=fnXI_some e;rcases e' with ⟨_,_,z⟩|⟨q,e1,z⟩
  ·cases z
  ·cases z;exact tFS_zE (zW (E:=E) hN ⟨p,dx,us,H0,ds,ns,es,rfl,hp,h0,s,r,e1,k⟩)
 ·obtain⟨hl,e'⟩:=fnXI_some e;rcases e' with ⟨ρ,e1,_⟩|⟨q,_,z⟩
  ·have R:=relI (N:=N) (by rw[<-nL r,hl];exact hN) hp h0 s r;exact⟨_,_,H0,_,R,e1,λσ' H0' H' s' R' ev=>k ev H' λb o e n=>R'.keep b o e (by simpa using n),λ_=>rfl⟩
  ·cases z
theorem len_XI{g:List D->Option (Option (List Str×List D))}(hg:∀ds q,g ds=some q->ds.length=np):∀vs H Q E,spXI G c g vs H Q E->vs.length=np+1:=λvs H Q E h=>by obtain⟨p,dx,us,H0,ds,rfl,_,_,_,r,k⟩:=h;rw[aE,<- nL r];rcases k with ⟨_,_,e,_⟩|⟨e,_⟩<;>rw[hg _ _ e]
end
structure ZX(X:Cx)(B:Bz)(c:Nat)(st:Stmt)(f:FS):Prop where p:(∀e s,¬X.xe e s)->∀xe Z,Passes (CXW B.P B.w (B.G.ca c)) (X.wish xe) (λ_ _ H'=>Z H')->Mades (X.wish xe) (B.G.ca c) Z->PS (X.wish xe) st (tFX B.G Z f)
structure ZY(X:Cx)(B:Bz)(c:Nat)(st:List Stmt)(f:FS):Prop where p:(∀e s,¬X.xe e s)->∀xe Z,Passes (CXW B.P B.w (B.G.ca c)) (X.wish xe) (λ_ _ H'=>Z H')->Mades (X.wish xe) (B.G.ca c) Z->PSs (X.wish xe) st (tFX B.G Z f)
class Xn(B:Bz)(y:Str)(c:outParam Nat):Prop where p:XC B.G.K (B.G.ca c)/\B.mg y=some (.ref (B.G.ca c))
class Dx(B:Bz)(j:outParam Nat)(x:Str)(c:Nat)(g:List D->Option Bool):Prop where p:∃ps f fd,B.mg x=some (.ref f)/\cG B.G.K (.ref f)=true/\Binds B.G.K fd ps []/\qD B.P B.w B.G.K B.mg B.base (CXW B.P B.w (B.G.ca c)) j f fd ps (spX B.G g)
class Kx(B:Bz)(j:outParam Nat)(x:Str)(c0:outParam Nat)(c:Nat)(g:List D->Option (Option (List Str×List D))):Prop where p:∃ps f fd,Mk B.G.K (B.G.ca c0) f/\B.mg x=some (.ref (B.G.ca c0))/\Binds B.G.K fd ps []/\qD B.P B.w B.G.K B.mg B.base (CXW B.P B.w (B.G.ca c)) j f fd ps (spXI B.G c0 g)
class Bx(X:Cx):Prop where
 n:∀e s,¬X.xe e s
 st:X.stack=X.env::X.outer
 fm:X.env.frame=some X.env.locals
instance inBx {P:aq}{w:ao}{K:aj}{mg:Str->Option aa}{base:Heap}{N:List Str}{qual:Str}{st:Stmt}{f:Addr}{cdv:aa}{A:ay}{outer:List Env}{s:ae}{H:Hp}{E:XK}:Bx (ue P w K mg base N qual st f cdv A outer s H E):=⟨λ_ _ z=>z,rfl,rfl⟩
section
variable{X:Cx}{B:Bz}{k j c c0:Nat}{x y:Str}{e:Expr}{es:List Expr}{p p2 p3 pos pos2 pos3 hp:Pos}{a:FA}{st b0:Stmt}{sts sts' suite:List Stmt}{fs fs' fh:FS}{ft:FT}
theorem zr_xU(h:ZS X B st fs):ZX X B c st (sNb fs):=⟨λn xe Z _ _=>pfx_up (h.p.lift n)⟩
theorem zr_yI(h1:ZX X B c st fs)(h2:ZY X B c sts fs'):ZY X B c (st::sts) (nP fs fs'):=⟨λn xe Z q r=>pfx_cons (h1.p n xe Z q r) (h2.p n xe Z q r)⟩
theorem zr_y1(h1:ZX X B c st fs):ZY X B c [st] fs:=⟨λn xe Z q r=>xm (h1.p n xe Z q r)⟩
theorem zr_y0:ZY X B c [] pG:=⟨λn xe Z q r=>pfx_nil⟩
theorem zr_xI(h:ZT X B e ft)(h1:ZY X B c sts fs)(h2:ZY X B c sts' fs'):ZX X B c (.If e sts sts' pos) (sIf ft fs fs'):=⟨λn xe Z q r=>pfx_if (h.p.lift n) (h1.p n xe Z q r) (h2.p n xe Z q r)⟩
section
variable(hg:Gz X x)(hd:Dz x)(hs:Sz X e es)(hl:Lz X pos es)
include hg hd hs hl
theorem zr_xR [C:Cz X B k][Q:Xn B x c](ha:ZA X B (e::es) a):ZX X B c (.Raise (some (.Call (.Name x p) (e::es) [] pos)) none pos2) (sRz a):=
 ⟨λn xe Z q r=>pfx_raise (ps_raise (X:=X.wish xe) (by show XC X.K _;rw[C.K];exact Q.p.1) C.c (by show X.mg x=_;rw[C.mg];exact Q.p.2) r (ha.p.lift n) hg hd hs hl)⟩
theorem zr_xC{g:List D->Option Bool}[C:Cz X B k][Q:Dx B j x c g](ha:ZA X B (e::es) a)(hj:bD j k=true)(hw:b9 (.Call (.Name x p) (e::es) [] pos) none pos2.line X.env=pure false):ZX X B c (.Expr (.Call (.Name x p) (e::es) [] pos) pos2) (sXp g a):=by refine⟨λn xe Z q r=>?_⟩;have Q':=Q.p;rw[<-C.P,<- C.w,<- C.K,<- C.mg,<- C.b]at Q';rw[<-C.P,<- C.w]at q;obtain⟨ps,f,fd,h1,h2,h3,h4⟩:=Q';exact pfx_call (zG (xn (X:=X.wish xe) (p:=p) (pos:=pos) h4 (C.r.mono (cR.mp hj)) hg h1 h2 h3 .nil q (ha.p.lift n) hd hs hl) hw)
theorem zr_tI{g:List D->Option (Option (List Str×List D))}[C:Cz X B k][Q:Xn B y c][R:Kx B j x c0 c g][b:Bx X](ha:ZA X B (e::es) a)(hh:∀v,ZB (X.caught v) B (b0::suite) fh)(hj:bD (j+1) k=true)(hg':Gz X y)(hd':Dz y)(hw:b9 (.Call (.Name x p) (e::es) [] pos) none pos2.line X.env=pure false):
  ZS X B (.Try [.Expr (.Call (.Name x p) (e::es) [] pos) pos2] [.ExceptHandler (some (.Name y p2)) none (b0::suite) hp] [] [] pos3) (sTry g a fh):=by
 have R':=R.p;have Q':=Q.p;rw[<-C.P,<- C.w,<- C.K,<- C.mg,<- C.b]at R';rw[<-C.K,<- C.mg]at Q';obtain⟨ps,f,fd,h1,h2,h3,h4⟩:=R';exact⟨pfx_try (c:=c0) (ps_try (ds:=[]) b.st b.fm b.n Q'.1 hg' Q'.2 hd' h1 h4 (C.r.mono (cR.mp hj)) h3 .nil hg h2 ha.p hd hs hl hw λv=>(hh v).p)⟩
end
end
section
variable{B:Bz}[Y:Yb B]{x m qual:Str}{st s0:Stmt}{l:List Stmt}{k c c0 np n:Nat}{b:FS}{p:Str}{ps xs:List Str}{N:List Str}
abbrev Bdx(B:Bz)(N:List Str)(qual:Str)(st:Stmt)(l:List Stmt)(k c:Nat)(b:FS):Prop:=∀{f:Addr} {cdv:aa} {A:ay} {outer:List Env} {s:ae} {H:Hp} {E:XK} [Cz (ue B.P B.w B.G.K B.mg B.base N qual st f cdv A outer s H E) B k],ZY (ue B.P B.w B.G.K B.mg B.base N qual st f cdv A outer s H E) B c l b
omit Y in
theorem Bdx.ok(h:Bdx B N qual st l k c b)(hl:oi st=l)(f:Addr)(cdv:aa)(A:ay)(outer:List Env)(s:ae)(H:Hp)(E:XK)(hr:pf k (A.deeper (envOfC qual (nV st) s.heap.objs.size f cdv))):
  PSs (cxW (B.G.ca c) B.P B.w B.G.K B.mg B.base N qual (nV st) f cdv A outer s H E) (oi st) (tFX B.G (λH'=>∀e,E e none H') b):=by
 subst hl;exact(@h f cdv A outer s H E ⟨rfl,rfl,rfl,rfl,rfl,rfl,hr⟩).p (λ_ _ z=>z) (cxW (B.G.ca c) B.P B.w B.G.K B.mg B.base N qual (nV st) f cdv A outer s H E).xe _ pass_body λpins σ H s a vs h' I hx z=>made_body I hx z
theorem gX4{g:List D->Option Bool}(hg:g=fnX np n b)(q:GD B.G.K x st)(hl:oi st=s0::l)(body:Bdx B (nmO st) x st (s0::l) k c b)(S:okO (nmO st) (psO st) st np n=true:=by kernel_rfl)(bd:Bds x x st (psO st):=by (repeat intro _);rfl):Dx B (k+1) x c g:=by obtain⟨f,fd,a,F⟩:=q;obtain⟨S1,S2,S3⟩:=okk S;refine⟨psO st,f,fd,Y.y.g a,F.kp,bd.ok F,?_⟩;subst hg S2 S3;obtain⟨oc,od,kV,doc,pm,an,cdv,ct,osl,rfl,lk,hcd⟩:=F.ex;exact Au lk hcd S1 (len_X λds d h=>(fnX_some h).1) λA outer s H vs Q E hr hsp=>⟨_,body.ok hl f cdv A outer s H E hr,entry_X (by have:=aL cg S1.pre;rw[bp]at this;omega) hsp⟩
theorem gX5(N:List Str){g:List D->Option Bool}(hg:g=fnX np n b)(q:GD B.G.K x st)(hl:oi st=s0::l)(body:Bdx B N x st (s0::l) k c b)(S:okO N (psO st) st np n=true:=by kernel_rfl)(bd:Bds x x st (psO st):=by (repeat intro _);rfl):Dx B (k+1) x c g:=by obtain⟨f,fd,a,F⟩:=q;obtain⟨S1,S2,S3⟩:=okk S;refine⟨psO st,f,fd,Y.y.g a,F.kp,bd.ok F,?_⟩;subst hg S2 S3;obtain⟨oc,od,kV,doc,pm,an,cdv,ct,osl,rfl,lk,hcd⟩:=F.ex;exact Au lk hcd S1 (len_X λds d h=>(fnX_some h).1) λA outer s H vs Q E hr hsp=>⟨_,body.ok hl f cdv A outer s H E hr,entry_X (by have:=aL cg S1.pre;rw[bp]at this;omega) hsp⟩
theorem gXI4{g:List D->Option (Option (List Str×List D))}(C:CF B.G.K (B.G.ca c0) xs)(a:fo B.G.K aG x=some (some (.ref (B.G.ca c0))))(hg:g=fnXI c0 np n b)(q:GM B.G.K (B.G.ca c0) "__init__" qual st)(hl:oi st=s0::l)(hp:psO st=p::ps)(body:Bdx B (nmO st) qual st (s0::l) k c b)(S:okO (nmO st) (p::ps) st (np+1) n=true:=by kernel_rfl)(bd:Bds "__init__" qual st (p::ps):=by (repeat intro _);rfl):Kx B (k+1) x c0 c g:=by obtain⟨f,fd,i,i',F⟩:=q;obtain⟨S1,S2,S3⟩:=okk S;refine⟨p::ps,f,fd,⟨C.mks,i,i',C.kp⟩,Y.y.g a,bd.ok F,?_⟩;obtain rfl:ps.length=np:=eS S2;subst hg S3;obtain⟨oc,od,kV,doc,pm,an,cdv,ct,osl,rfl,lk,hcd⟩:=F.ex;exact Au lk hcd S1 (len_XI λds d h=>(fnXI_some h).1) λA outer s H vs Q E hr hsp=>⟨_,body.ok hl f cdv A outer s H E hr,entry_XI (by have:=aL cg S1.pre;rw[bp,aE]at this;omega) hsp⟩
end
section
variable{X:Cx}{B:Bz}{k j:Nat}{x:Str}{e:Expr}{n:FA}{p pos:Pos}
theorem zr_df0{g:List D->Option D}[C:Cz X B k][Q:Df B j x (spF B.G g)](hg:Gz X x)(hd:Dz x)(hj:bD j k=true):ZE X B (.Call (.Name x p) [] [] pos) (nN g ox):=by obtain⟨ps,q⟩:=dz hg hd (X:=X) (Q:=Q);exact⟨Il q (C.r.mono (cR.mp hj)) hg hd⟩
end
def sIxPut(i m:Nat)(f:FE):FS:=λρ=>match f ρ with
 |some (d,ρ1)=>match pd ρ1 i with
  |some ds=>match ρ1[m]? with
   |some (.im (.int j))=>match ixN ds.length j with
    |some k=>some (.nx (putAt ρ1 i (ds.set k d)))
    |none=>none
   |_=>none
  |none=>none
 |none=>none
section
variable{X:Cx}{G:Bg}
theorem pfs_ixput{st:Stmt}{i m:Nat}{f:FE}(h:PS X st (uD (tF G f) (Kj (sj i) (sj m) EJ))):PS X st (tFS G (sIxPut i m f)):=PS.weak h λE σ H hh=>by
 obtain⟨F,ρ,H0,o,R,e,k,k2⟩:=hh;unfold sIxPut at e;rcases n4 (f:=f) (ρ:=ρ)with e1|⟨d,ρ1,e1⟩<;>simp only[e1]at e
 ·cases e
 cases e2:pd ρ1 i with
 |none=>simp only[e2]at e;cases e
 |some ds=>
  simp only[e2]at e;split at e
  ·rename_i j e4;cases e3:ixN ds.length j with
   |none=>simp only[e3]at e;cases e
   |some n=>simp only[e3]at e;cases e;refine⟨F,ρ,H0,d,ρ1,R,e1,λv H1 H1' s R' r=>?_⟩;obtain⟨a,xs,s1,s2,s3,s4⟩:=pY R' e2;obtain⟨w,w1,w2⟩:=R'.sl m _ e4;unfold Rep at w2;subst w2;exact⟨.ref a,s1,.int j,qm w1,a,xs,j,n,rfl,rfl,s2,by rw[<-nL s3];exact e3,k _ _ _ s (s4 _ _ (xP n s3 r))⟩
  ·cases e
end
section
variable{X:Cx}{B:Bz}{i m:Nat}{x y:Str}{e:Expr}{f:FE}{p p2 p3 pos:Pos}
theorem zr_xpT(h:sees X i x=true)(h':sees X m y=true)(he:ZE X B e f)(hs:swapsWithSole [.Subscript (.Name x p) (.Name y p2) p3] e pos.line X.env=pure false)(hw:swappedStores [.Subscript (.Name x p) (.Name y p2) p3] e X.env=pure none)
  (h1:(bU [.Subscript (.Name x p) (.Name y p2) p3] X.env).map (·.2)=[assign (.Subscript (.Name x p) (.Name y p2) p3) X.env]):ZS X B (.Assign [.Subscript (.Name x p) (.Name y p2) p3] e pos) (sIxPut i m f):=⟨pfs_ixput (Bm he.p (Eu (pvI h) (pvI h') set_list) hs hw h1)⟩
end
end L4
namespace L4
open PySem PySem.Spec PySem.Calls PyProof.Rows PySem.W L2 L3
theorem uqP_K{κ α:Type}[DecidableEq κ]:∀(l acc:List (κ×α)),(l.foldl ust acc).map bC=(l.map bC).foldl (λacc k=>if k∈acc then acc else acc++[k]) (acc.map bC)
 |[],_=>rfl
 |q::l,acc=>by rw[cP,uqP_K l,aN,cP];congr 1;unfold ust;split<;>simp
section
variable{X:Cx}{G:Bg}
def SrcU(K:aj)(H:Hp)(a:Addr)(n:Nat):Prop:=Lu K H a n\/
 ∃L:List (List Str×Addr),SqL K H a (L.map λq=>V.ref q.2)/\L.length<=40/\(∀q∈L,∃p r,q.1=[p,r]/\SqT K H q.2 [.str p,.str r])/\n=(uqP L).length
theorem uqP_le{κ α:Type}[DecidableEq κ]:∀(l acc:List (κ×α)),(l.foldl ust acc).length<=acc.length+l.length
 |[],_=>aC _
 |q::l,acc=>by
  have h:=uqP_le l (ust acc q);have h2:(ust acc q).length<=acc.length+1:=by unfold ust;split<;>simp
  rw[cP,aE];omega
theorem set_U2:Lv X SrcU:=by
 intro pins σ H s A E Q a n I hh hu hq h;rcases hq with hq|⟨L,h1,h8,ht,rfl⟩
 ·exact Ol I hh hu hq h
 ·have hl:(uqP L).length<=40:=bH (uqP_le L []) (by rw[dE];omega);refine Ph I hh hu (.inl h1) (by omega) ht λh2 k2 o es ep t x kk=>?_;refine h h2 k2 ⟨o,es,ep,t,x.at_,x.ex,x.d,?_,x.fits (ai _),x.sz.trans (ai _)⟩ kk;rw[x.sz,ai];unfold scanBound;omega
def pairsU(ds:List D):Option D:=match zj ds with
 |some ks=>if ds.length<=40 then some (.int (uqK ks).length)else none
 |none=>none
theorem pairs_U(hK:X.K=G.K):∀{ds d H1 H1' a xs},pairsU ds=some d->SqL X.K H1' a xs->nM G H1 ds xs->nR H1 H1'->∃n:Nat,SrcU X.K H1' a n/\d=.int n:=λ{ds d H1 H1' a xs} e hq h2 s=>by
 unfold pairsU at e;cases e2:zj ds with
 |none=>simp only[e2]at e;cases e
 |some ks=>
  simp only[e2]at e;split at e
  ·rename_i hc;cases e;obtain⟨L,rfl,rfl,h3⟩:=CQ h2 e2;have hl:=nL h2;rw[ai]at hl;refine⟨_,.inr ⟨L,hq,by omega,λq hq=>?_,rfl⟩,?_⟩
   ·obtain⟨p,r,e,h4⟩:=h3 q hq;rw[<-hK]at h4;exact⟨p,r,e,SqT.mono s h4⟩
   ·have:=aL cg (uqP_K L []);rw[ai]at this;show D.int _=D.int _;rw[show (uqP L).length=_ from this];rfl
  ·cases e
end
section
variable{X:Cx}{B:Bz}{k:Nat}{e:Expr}{f:FE}{p p2 p3 pos:Pos}
theorem zr_l2I [C:Cz X B k][N:Nb B "len"][N':Nb B "set"](hs:S1 X e)(hg:Gz X "len")(hg':Gz X "set")(ha:ZE X B e f)(z:ar [Expr.Call (.Name "set" p2) [e] [] p3] X.env=[(false,eval (.Call (.Name "set" p2) [e] [] p3) X.env)]):ZE X B (.Call (.Name "len" p) [.Call (.Name "set" p2) [e] [] p3] [] pos) (c1 (vz pairsU) f):=⟨BQ C.K .inl (pairs_U C.K) (Ec set_U2 C.r.units C.c hg (C.mg▸N.p) hg' (C.mg▸N'.p) ha.p z hs)⟩
end
end L4
namespace K08x
open PySem L2 L3 L4
abbrev D:=L4.D
def top(i:Nat):Stmt:=PySem.Challenge.pw_tellworld_k08_verbs_that_are_none.main.body.getD i (.Pass ⟨0,0,0,0⟩)
def sI:Nat->Bool:=λc=>c==14
def yn:Nat->Bool:=λc=>c==2
def pq:Nat->Bool:=λc=>c==2
def tN:Nat->Bool:=λc=>c==14
def ug:Nat->Bool:=λc=>c==14
def oV:Nat->Bool:=λc=>c==0||c==7
def rS:Nat->Bool:=λc=>c==1
def n8:Nat->Bool:=λc=>c==0||c==1||c==2
def p9:Nat->Bool:=λc=>c==2
def sJ:Nat->Bool:=λc=>c==14
def sL:Nat->Bool:=λc=>c==14
def qj:Nat->Bool:=λc=>c==0||c==1
def Bb:Nat->Bool:=λc=>c==13
def pj:Nat->Bool:=λc=>c==0
def uK:Nat->Bool:=λc=>c==14
abbrev Gi:Ty->Option Bool:=yc 15 1
abbrev Ag:Ty->Option Bool:=yc 15 0
abbrev Gj:Ty->Option Bool:=yc 15 2
def xw:L4.D:=(D.tup [(D.str "room"),(D.str "plain"),(D.str "fixed"),(D.str "box"),(D.str "lamp"),(D.str "you")])
def Da:L4.D:=(D.tup [(D.str "alone"),(D.str "one"),(D.str "two"),(D.str "way")])
def sf:L4.D:=(D.tup [(D.str "room"),(D.str "box"),(D.str "you")])
def sg:L4.D:=(D.tup [(D.str "box"),(D.str "lamp")])
def uL:L4.D:=(D.tup [(D.str "room"),(D.str "you")])
def uh:L4.D:=(D.int 8)
def ui:L4.D:=(D.int 12)
def yp:L4.D:=(D.tup [(D.str "it"),(D.str "other"),(D.str "here"),(D.str "the"),(D.str "a"),(D.str "undo"),(D.str "restart")])
def yq:L4.D:=(D.tup [(D.str "the"),(D.str "a")])
def tD:L4.D:=(D.int 5)
def sv:L4.D:=(D.int 7)
def vC:L4.D:=(D.int 4)
def uj:L4.D:=(D.int 3)
def uk:L4.D:=(D.int 10)
def tE:L4.D:=(D.int 6)
def vE:L4.D:=(D.int 4)
def pL:L4.D:=(D.tup [(D.str "the"),(D.str "a"),(D.str "undo"),(D.str "restart")])
def vF:L4.D:=(D.int 20)
def rT:FS:=(oZ (qt (c1 (qB (pT "str")) (cV 0)) (qt (qu r6 r6 (cC (.int 1)) (c1 p6 (cV 0)) (cV 1)) (c1 ql (cL (nZ 1 [] (iS (cV 0)) (gN 0) oQ (qu Fk Fk (cS "a") (cV 0) (cS "z"))))))))
def qx:=fnD 2 2 rT
def zl:FS:=(oZ (qt (nN qx (aCons (cV 0) (a1 (cC uh)))) (c2 (dIn true) (cV 0) (cC yp))))
def oh:=fnD 1 1 zl
def zm:FS:=(oZ (qt (nN qx (aCons (cV 0) (a1 (cC ui)))) (c2 (dIn true) (cV 0) (cC yq))))
def qV:=fnD 1 1 zm
def wL:FS:=(oZ (qt (c1 (qB (pT "str")) (cV 0)) (c2 (dIn false) (cV 0) (cV 1))))
def oG:=fnD 2 2 wL
def yt:FS:=(oZ (qt (c1 (qB (pT "int")) (cV 0)) (vY (c1 (qB (pT "bool")) (cV 0)))))
def uY:=fnD 1 1 yt
def tO:FS:=(oZ (qt (c1 (qB (pT "list")) (cV 0)) (c2 r6 (c1 p6 (cV 0)) (cV 1))))
def oM:=fnD 2 2 tO
def yu:FS:=(oZ (cIf (cT (c1 (qB (pT "list")) (cV 0))) (cL (uH (cV 0))) (cV 0)))
def uZ:=fnD 1 1 yu
def tG:FS:=(nP (oA 0 0 "name" (cV 1))
 (nP (oA 0 0 "words" (cV 2))
 (nP (oA 0 0 "kind" (cV 3))
 (oA 0 0 "start" (cV 4)))))
def o7:=fnI 0 4 5 tG
def wM:FS:=(nP (oA 1 0 "name" (cV 1))
 (nP (oA 1 0 "start" (cV 2))
 (oA 1 0 "most" (cV 3))))
def rg:=fnI 1 3 4 wM
def um:FS:=(nP (oA 2 0 "name" (cV 1))
 (nP (oA 2 0 "others" (cIf (cT (c2 xk (cV 2) (cC D.non))) (oP ox) (cV 2)))
 (nP (oA 2 0 "form" (cV 3))
 (oA 2 0 "joining" (cV 4)))))
def nQ:=fnI 2 4 5 um
def zp:FS:=(nP (oA 3 0 "term" (cV 1))
 (oA 3 0 "place" (cV 2)))
def wg:=fnI 3 2 3 zp
def yw:FS:=(oA 4 0 "term" (cV 1))
def u4:=fnI 4 1 2 yw
def uM:FS:=(nP (oA 6 0 "term" (cV 1))
 (oA 6 0 "value" (cV 2)))
def pC:=fnI 6 2 3 uM
def wN:FS:=(nP (oA 7 0 "term" (cV 1))
 (oA 7 0 "kind" (cV 2)))
def qa:=fnI 7 2 3 wN
def wQ:FS:=(oA 8 0 "word" (cV 1))
def wR:=fnI 8 1 2 wQ
def yx:FS:=(oA 9 0 "inner" (cV 1))
def qb:=fnI 9 1 2 yx
def wU:FS:=(nP (oA 11 0 "term" (cV 1))
 (oA 11 0 "place" (cV 2)))
def rh:=fnI 11 2 3 wU
def yy:FS:=(nP (oA 12 0 "term" (cV 1))
 (oA 12 0 "value" (cV 2)))
def rU:=fnI 12 2 3 yy
def wV:FS:=(nP (oA 13 0 "verb" (cV 1))
 (nP (oA 13 0 "tests" (nN uZ (a1 (cV 2))))
 (nP (oA 13 0 "deeds" (nN uZ (a1 (cV 3))))
 (nP (oA 13 0 "text" (cV 4))
 (oA 13 0 "refuses" (cV 5))))))
def uo:=fnI 13 5 6 wV
def sM:FS:=(oZ (c2 (dIn false) (c1 (n9 oV "kind") (cV 0)) (cC sf)))
def sN:=fnD 1 1 sM
def qc:Nat->Option (List D->Option D):=λc=>match c with
 |0=>some sN
 |_=>none
def sO:FS:=(oZ (c2 (dIn false) (c1 (n9 oV "kind") (cV 0)) (cC sg)))
def sP:=fnD 1 1 sO
def pI:Nat->Option (List D->Option D):=λc=>match c with
 |0=>some sP
 |_=>none
def rV:FS:=(oZ (c2 (dIn true) (c1 (n9 oV "kind") (cV 0)) (cC uL)))
def rW:=fnD 1 1 rV
def qW:Nat->Option (List D->Option D):=λc=>match c with
 |0=>some rW
 |_=>none
def tP:FS:=(sIf (qG (cT (cV 0))) (sRz (a1 (cV 1))) pG)
def nI:=fnX 2 2 tP
def yz:FS:=(oZ (c1 p6 (cL (nZ 1 [1] (iL (cV 0)) (gN 0) (cT (c2 (dEq false) (c1 (n9 oV "kind") (cV 0)) (cV 1))) (cV 0)))))
def qX:=fnD 2 2 yz
def vG:FS:=(pX (nZ 1 [] (iL (cV 0)) (gN 0) (cT (qz qW "is_plainly" (cV 0) ox)) (cV 0)))
def pM:=fnN 1 1 vG
def zq:FS:=(nP (sIf (xi (qG (cT (c1 (qB Gi) (cV 0)))) (xi (qG (cT (nN uY (a1 (c1 (n9 qj "start") (cV 0)))))) (qG (cT (nN uY (a1 (c1 (n9 rS "most") (cV 0)))))))) (oZ (cC (.bl false))) pG)
 (oZ (qt (qu r6 r6 (cC (.int 1)) (c1 (n9 rS "most") (cV 0)) (cC uj)) (qu r6 r6 (cC (.int 0)) (c1 (n9 qj "start") (cV 0)) (c1 (n9 rS "most") (cV 0))))))
def zr:=fnD 1 1 zq
def uq:FS:=(nP (sNb (oJ 1 (qt (c1 (qB (pT "list")) (cV 0)) (c1 ql (cL (nZ 1 [] (iL (cV 0)) (gN 0) oQ (c1 (qB Ag) (cV 0))))))))
 (nP (sXp nI (aCons (cV 1) (a1 (cS "things are a list of things"))))
 (nP (sXp nI (aCons (c1 ql (cL (nZ 1 [] (iL (cV 0)) (gN 0) oQ (nN oG (aCons (c1 (n9 oV "kind") (cV 0)) (a1 (cC xw))))))) (a1 (cS "a thing is of no kind"))))
 (nP (sXp nI (aCons (qu r6 r6 (cC (.int 1)) (nN qX (aCons (cV 0) (a1 (cS "room")))) (cC tD)) (a1 (cS "a world has 1 to 5 rooms"))))
 (nP (sXp nI (aCons (c2 (dEq false) (nN qX (aCons (cV 0) (a1 (cS "you")))) (cC (.int 1))) (a1 (cS "a world has just one you"))))
 (sXp nI (aCons (c2 r6 (c1 p6 (cL (o6 pM (a1 (cV 0))))) (cC sv)) (a1 (cS "a world has at most 7 things beside rooms and you")))))))))
def qd:=fnX 1 2 uq
def uN:FS:=(nP (sNb (oJ 1 (qt (nN oM (aCons (cV 0) (a1 (cC vC)))) (c1 ql (cL (nZ 1 [] (iL (cV 0)) (gN 0) oQ (nN zr (a1 (cV 0)))))))))
 (sXp nI (aCons (cV 1) (a1 (cS "marks are a list of at most 4 marks, each from 0 to at most 3")))))
def uO:=fnX 1 2 uN
def vH:FS:=(oZ (c2 (dEq false) (c1 (vz pairsU) (cV 0)) (c1 p6 (cV 0))))
def oj:=fnD 1 1 vH
def qo:FS:=(nP (sNb (oJ 2 (cL (o4 (cL (nZ 1 [] (iL (cV 0)) (gN 0) oQ (c1 (n9 n8 "name") (cV 0)))) (cL (nZ 1 [] (iL (cV 1)) (gN 0) oQ (c1 (n9 n8 "name") (cV 0))))))))
 (nP (sXp nI (aCons (c1 ql (cL (nZ 1 [] (iL (cV 2)) (gN 0) oQ (nN oh (a1 (cV 0)))))) (a1 (cS "a name is no name"))))
 (sXp nI (aCons (nN oj (a1 (cV 2))) (a1 (cS "two things or marks have one name"))))))
def pE:=fnX 2 3 qo
def vI:FS:=(pX (o4 (cL (nZ 1 [] (iL (cV 0)) (gN 0) (cT (qz pI "has_mark" (cV 0) ox)) (c1 (n9 n8 "name") (cV 0)))) (cL (nZ 1 [] (iL (cV 1)) (gN 0) oQ (c1 (n9 n8 "name") (cV 0))))))
def oF:=fnN 2 2 vI
def va:FS:=(nP (sIf (cT (c2 (dEq false) (c1 (n9 oV "kind") (cV 1)) (cS "room"))) (oZ (c2 xk (c1 (n9 qj "start") (cV 1)) (cC D.non))) pG)
 (nP (sIf (cT (c2 (dEq false) (c1 (n9 oV "kind") (cV 1)) (cS "you"))) (oZ (nN oG (aCons (c1 (n9 qj "start") (cV 1)) (a1 (cL (nZ 1 [] (iL (cV 0)) (gN 0) (cT (c2 (dEq false) (c1 (n9 oV "kind") (cV 0)) (cS "room"))) (c1 (n9 n8 "name") (cV 0)))))))) pG)
 (oZ (nN oG (aCons (c1 (n9 qj "start") (cV 1)) (a1 (cL (nZ 1 [] (iL (cV 0)) (gN 0) (cT (qz qc "can_hold" (cV 0) ox)) (c1 (n9 n8 "name") (cV 0))))))))))
def vc:=fnD 2 2 va
def tQ:FS:=(nP (oJ 2 (c2 wG (cV 0) (cV 1)))
 (nP (tU (iR1 (c1 p6 (cV 0))) (gN 3) (nP (sIf (cT (c2 xk (cV 2) (cC D.non))) (oZ (cC (.bl true))) pG)
 (oJ 2 (c2 wG (cV 0) (cV 2)))))
 (oZ (c2 xk (cV 2) (cC D.non)))))
def oN:=fnD 2 4 tQ
def qI:FS:=(nP (sXp nI (aCons (c1 ql (cL (nZ 1 [0] (iL (cV 0)) (gN 0) oQ (nN vc (aCons (cV 1) (a1 (cV 0))))))) (a1 (cS "a start is none"))))
 (nP (sNb (zf 1))
 (nP (sNb (tU (iL (cV 0)) (gN 2) (qU 1 (c1 (n9 n8 "name") (cV 2)) (c1 (n9 qj "start") (cV 2)))))
 (sXp nI (aCons (c1 ql (cL (nZ 1 [1] (iD (cFz 1)) (gN 0) oQ (nN oN (aCons (cV 1) (a1 (cV 0))))))) (a1 (cS "a thing starts within itself")))))))
def qe:=fnX 1 3 qI
def wW:FS:=(nP (sIf (xi (qG (cT (c1 (qB (pT "tuple")) (cV 0)))) (qG (cT (qu r6 r6 (cC (.int 1)) (c1 p6 (cV 0)) (cC vE))))) (oZ (cC (.bl false))) pG)
 (oZ (qt (c1 ql (cL (nZ 1 [] (iT (cV 0)) (gN 0) oQ (nN qV (a1 (cV 0)))))) (nN oj (a1 (cV 0))))))
def oE:=fnD 1 1 wW
def zt:FS:=(oZ (c1 ql (cL (nZ 1 [0] (iT (cV 1)) (gN 0) oQ (c2 (dIn false) (cV 0) (cV 1))))))
def qC:=fnD 2 2 zt
def rl:FS:=(nP (oJ 2 (cL (nZ 1 [1] (iL (cV 0)) (gN 0) (cT (c2 (dEq true) (c1 (n9 n8 "name") (cV 0)) (c1 (n9 n8 "name") (cV 1)))) (cV 0))))
 (oZ (vY (c1 x9 (cL (nZ 1 [1] (iL (cV 2)) (gN 0) oQ (nN qC (aCons (c1 (n9 pj "words") (cV 0)) (a1 (c1 (n9 pj "words") (cV 1)))))))))))
def pU:=fnD 2 3 rl
def oH:FS:=(nP (sXp nI (aCons (c1 ql (cL (nZ 1 [] (iL (cV 0)) (gN 0) oQ (nN oE (a1 (c1 (n9 pj "words") (cV 0))))))) (a1 (cS "a thing has 1 to 4 unlike words, as a tuple"))))
 (nP (sNb (oJ 1 (cL (o6 pM (a1 (cV 0))))))
 (sXp nI (aCons (c1 ql (cL (nZ 1 [1] (iL (cV 1)) (gN 0) oQ (nN pU (aCons (cV 1) (a1 (cV 0))))))) (a1 (cS "one thing has all words of another"))))))
def oq:=fnX 1 2 oH
def vJ:FS:=(nP (sNb (oJ 2 (qt (c1 (qB (pT "list")) (cV 0)) (qt (c1 ql (cL (nZ 1 [1] (iL (cV 0)) (gN 0) oQ (nN oG (aCons (cV 0) (a1 (cV 1))))))) (nN oj (a1 (cV 0)))))))
 (sXp nI (aCons (cV 2) (a1 (cS "dark is a list of rooms' names, each once")))))
def vK:=fnX 2 3 vJ
def yA:FS:=(nP (sIf (xi (qG (cT (c1 (qB (pT "tuple")) (cV 0)))) (cT (c2 (dEq true) (c1 p6 (cV 0)) (cC (.int 4))))) (oZ (cC (.bl false))) pG)
 (nP (oJ 3 (cOr (c2 xk (c2 dIx (cV 0) (cC (.int 3))) (cC D.non)) (nN oG (aCons (c2 dIx (cV 0) (cC (.int 3))) (a1 (cV 2))))))
 (oZ (qt (nN oG (aCons (c2 dIx (cV 0) (cC (.int 0))) (a1 (cV 1)))) (qt (nN qV (a1 (c2 dIx (cV 0) (cC (.int 1))))) (qt (nN oG (aCons (c2 dIx (cV 0) (cC (.int 2))) (a1 (cV 1)))) (cV 3)))))))
def vM:=fnD 3 4 yA
def rF:FS:=(nP (sNb (oJ 3 (qt (nN oM (aCons (cV 0) (a1 (cC uk)))) (c1 ql (cL (nZ 1 [1,2] (iL (cV 0)) (gN 0) oQ (nN vM (aCons (cV 0) (aCons (cV 1) (a1 (cV 2)))))))))))
 (nP (sXp nI (aCons (cV 3) (a1 (cS "ways are a list of at most 10 tuples (room, word, room, mark)"))))
 (sXp nI (aCons (nN oj (a1 (cL (nZ 1 [] (iL (cV 0)) (gN 0) oQ (oP (aCons (c2 dIx (cV 0) (cC (.int 0))) (a1 (c2 dIx (cV 0) (cC (.int 1)))))))))) (a1 (cS "two ways lead from one room by one word"))))))
def px:=fnX 3 4 rF
def zu:FS:=(nP (sIf (xi (qG (cT (c1 (qB Gj) (cV 0)))) (xi (qG (cT (nN oh (a1 (c1 (n9 n8 "name") (cV 0)))))) (qG (cT (c1 (qB (pT "tuple")) (c1 (n9 p9 "others") (cV 0))))))) (oZ (cC (.bl false))) pG)
 (nP (sIf (xi (qG (cT (c1 ql (cL (nZ 1 [] (iT (c1 (n9 p9 "others") (cV 0))) (gN 0) oQ (nN oh (a1 (cV 0)))))))) (qG (cT (nN oG (aCons (c1 (n9 yn "form") (cV 0)) (a1 (cC Da))))))) (oZ (cC (.bl false))) pG)
 (oZ (cIf (cT (c2 (dEq false) (c1 (n9 yn "form") (cV 0)) (cS "two"))) (nN qV (a1 (c1 (n9 pq "joining") (cV 0)))) (c2 xk (c1 (n9 pq "joining") (cV 0)) (cC D.non))))))
def o3:=fnD 1 1 zu
def qZ:FS:=(nP (sNb (oJ 1 (qt (nN oM (aCons (cV 0) (a1 (cC tE)))) (c1 ql (cL (nZ 1 [] (iL (cV 0)) (gN 0) oQ (nN o3 (a1 (cV 0)))))))))
 (sXp nI (aCons (cV 1) (a1 (cS "verbs are a list of at most 6 verbs")))))
def pF:=fnX 1 2 qZ
def wX:FS:=(oZ (vY (c1 x9 (cL (nZ 1 [1] (iL (cV 0)) (gN 0) oQ (c2 (dIn false) (cV 0) (cV 1)))))))
def oX:=fnD 2 2 wX
def pN:FS:=(nP (sNb (qN 3 (n6 ox)))
 (nP (sNb (tU (iL (cL (o6 pM (a1 (cV 0))))) (gN 4) (qy (uf 3 (c1 (n9 pj "words") (cV 4))))))
 (nP (sNb (qN 5 (n6 ox)))
 (nP (sNb (tU (iL (cV 2)) (gN 6) (qy (uf 5 (wH (oP (a1 (c1 (n9 n8 "name") (cV 6)))) (c1 (n9 p9 "others") (cV 6)))))))
 (nP (sNb (oJ 7 (cL (o4 (cL (nZ 1 [] (iL (cV 2)) (gN 0) (cT (c2 zc (c1 (n9 pq "joining") (cV 0)) (cC D.non))) (c1 (n9 pq "joining") (cV 0)))) (cL (nZ 1 [] (iL (cV 1)) (gN 0) oQ (c2 dIx (cV 0) (cC (.int 1)))))))))
 (nP (sXp nI (aCons (nN oj (a1 (cFz 5))) (a1 (cS "two verbs' names are alike"))))
 (nP (sXp nI (aCons (nN oX (aCons (cL (o4 (cFz 5) (cV 7))) (a1 (cFz 3)))) (a1 (cS "a verb's, way's or joining word is a word of a thing"))))
 (nP (sXp nI (aCons (nN oX (aCons (cL (o4 (cFz 5) (cV 7))) (a1 (cC pL)))) (a1 (cS "the, a, undo or restart is a word of the world"))))
 (sXp nI (aCons (nN oX (aCons (cV 7) (a1 (cFz 5)))) (a1 (cS "a way's or joining word is a verb's name"))))))))))))
def pb:=fnX 3 8 pN
def q8:FS:=(nP (sXp qd (a1 (cV 0)))
 (nP (sXp uO (a1 (cV 1)))
 (nP (sXp pE (aCons (cV 0) (a1 (cV 1))))
 (nP (sXp qe (a1 (cV 0)))
 (nP (sXp oq (a1 (cV 0)))
 (nP (sNb (oJ 6 (cL (nZ 1 [] (iL (cV 0)) (gN 0) (cT (c2 (dEq false) (c1 (n9 oV "kind") (cV 0)) (cS "room"))) (c1 (n9 n8 "name") (cV 0))))))
 (nP (sXp vK (aCons (cV 2) (a1 (cV 6))))
 (nP (sXp px (aCons (cV 3) (aCons (cV 6) (a1 (cL (o6 oF (aCons (cV 0) (a1 (cV 1)))))))))
 (nP (sXp pF (a1 (cV 4)))
 (sXp pb (aCons (cV 0) (aCons (cV 3) (a1 (cL (o4 (cV 4) (cV 5))))))))))))))))
def oR:=fnX 6 7 q8
def Gk:FS:=(oZ (nX 13 (λds=>uo (ds++[])) (aCons (cV 0) (aCons (cV 1) (aCons (cV 2) (aCons (cV 3) (a1 (cC (.bl false)))))))))
def sy:=fnD 4 4 Gk
def zv:FS:=(oZ (nX 13 (λds=>uo (ds++[])) (aCons (cV 0) (aCons (cV 1) (aCons (cL (n6 ox)) (aCons (cV 2) (a1 (cC (.bl true)))))))))
def oK:=fnD 3 3 zv
def vN:FS:=(pX (n6 (aCons (nN oK (aCons (cS "take") (aCons (cL (n6 (a1 (nX 7 (λds=>qa (ds++[])) (aCons (cS "it") (a1 (cS "fixed"))))))) (a1 (cS "That stays."))))) (aCons (nN oK (aCons (cS "take") (aCons (cL (n6 (a1 (nX 3 (λds=>wg (ds++[])) (aCons (cS "it") (a1 (cV 0))))))) (a1 (cS "You have that."))))) (aCons (nN sy (aCons (cS "take") (aCons (cL (n6 ox)) (aCons (cL (n6 (a1 (nX 11 (λds=>rh (ds++[])) (aCons (cS "it") (a1 (cV 0))))))) (a1 (cS "Taken.")))))) (aCons (nN sy (aCons (cS "drop") (aCons (cL (n6 (a1 (nX 4 (λds=>u4 (ds++[])) (a1 (cS "it")))))) (aCons (cL (n6 (a1 (nX 11 (λds=>rh (ds++[])) (aCons (cS "it") (a1 (cS "here"))))))) (a1 (cS "Dropped.")))))) (a1 (nN oK (aCons (cS "drop") (aCons (cL (n6 ox)) (a1 (cS "You lack that."))))))))))))
def vO:=fnN 1 1 vN
def wY:FS:=(pX (n6 (aCons (nN oK (aCons (cS "put") (aCons (cL (n6 (a1 (nX 9 (λds=>qb (ds++[])) (a1 (nX 4 (λds=>u4 (ds++[])) (a1 (cS "it")))))))) (a1 (cS "You lack that."))))) (aCons (nN oK (aCons (cS "put") (aCons (cL (n6 (a1 (nX 9 (λds=>qb (ds++[])) (a1 (nX 7 (λds=>qa (ds++[])) (aCons (cS "other") (a1 (cS "box"))))))))) (a1 (cS "It holds nothing."))))) (aCons (nN oK (aCons (cS "put") (aCons (cL (n6 (a1 (nX 6 (λds=>pC (ds++[])) (aCons (cS "other") (a1 (cC (.int 0)))))))) (a1 (cS "It is shut."))))) (a1 (nN sy (aCons (cS "put") (aCons (cL (n6 ox)) (aCons (cL (n6 (a1 (nX 11 (λds=>rh (ds++[])) (aCons (cS "it") (a1 (cS "other"))))))) (a1 (cS "Done."))))))))))))
def wZ:=fnN 0 0 wY
def w5:FS:=(pX (n6 (aCons (nN oK (aCons (cS "open") (aCons (cL (n6 (a1 (nX 9 (λds=>qb (ds++[])) (a1 (nX 7 (λds=>qa (ds++[])) (aCons (cS "it") (a1 (cS "box"))))))))) (a1 (cS "It has no lid."))))) (aCons (nN oK (aCons (cS "open") (aCons (cL (n6 (a1 (nX 6 (λds=>pC (ds++[])) (aCons (cS "it") (a1 (cC (.int 1)))))))) (a1 (cS "It is open."))))) (aCons (nN sy (aCons (cS "open") (aCons (cL (n6 ox)) (aCons (cL (n6 (a1 (nX 12 (λds=>rU (ds++[])) (aCons (cS "it") (a1 (cC (.int 1)))))))) (a1 (cS "Opened.")))))) (aCons (nN oK (aCons (cS "shut") (aCons (cL (n6 (a1 (nX 9 (λds=>qb (ds++[])) (a1 (nX 7 (λds=>qa (ds++[])) (aCons (cS "it") (a1 (cS "box"))))))))) (a1 (cS "It has no lid."))))) (aCons (nN oK (aCons (cS "shut") (aCons (cL (n6 (a1 (nX 6 (λds=>pC (ds++[])) (aCons (cS "it") (a1 (cC (.int 0)))))))) (a1 (cS "It is shut."))))) (a1 (nN sy (aCons (cS "shut") (aCons (cL (n6 ox)) (aCons (cL (n6 (a1 (nX 12 (λds=>rU (ds++[])) (aCons (cS "it") (a1 (cC (.int 0)))))))) (a1 (cS "Shut."))))))))))))))
def w6:=fnN 0 0 w5
def uP:FS:=(pX (n6 (aCons (nN oK (aCons (cS "light") (aCons (cL (n6 (a1 (nX 9 (λds=>qb (ds++[])) (a1 (nX 7 (λds=>qa (ds++[])) (aCons (cS "it") (a1 (cS "lamp"))))))))) (a1 (cS "It burns not."))))) (aCons (nN oK (aCons (cS "light") (aCons (cL (n6 (a1 (nX 6 (λds=>pC (ds++[])) (aCons (cS "it") (a1 (cC (.int 1)))))))) (a1 (cS "It is lit."))))) (aCons (nN sy (aCons (cS "light") (aCons (cL (n6 ox)) (aCons (cL (n6 (a1 (nX 12 (λds=>rU (ds++[])) (aCons (cS "it") (a1 (cC (.int 1)))))))) (a1 (cS "Lit.")))))) (aCons (nN oK (aCons (cS "douse") (aCons (cL (n6 (a1 (nX 9 (λds=>qb (ds++[])) (a1 (nX 7 (λds=>qa (ds++[])) (aCons (cS "it") (a1 (cS "lamp"))))))))) (a1 (cS "It burns not."))))) (aCons (nN oK (aCons (cS "douse") (aCons (cL (n6 (a1 (nX 6 (λds=>pC (ds++[])) (aCons (cS "it") (a1 (cC (.int 0)))))))) (a1 (cS "It is out."))))) (a1 (nN sy (aCons (cS "douse") (aCons (cL (n6 ox)) (aCons (cL (n6 (a1 (nX 12 (λds=>rU (ds++[])) (aCons (cS "it") (a1 (cC (.int 0)))))))) (a1 (cS "Doused."))))))))))))))
def uQ:=fnN 0 0 uP
def w9:FS:=(nP (qN 2 (n6 (aCons (nX 3 (λds=>wg (ds++[])) (aCons (cV 0) (a1 (c2 dIx (cV 1) (cC (.int 0)))))) (a1 (nX 8 (λds=>wR (ds++[])) (a1 (c2 dIx (cV 1) (cC (.int 1)))))))))
 (nP (sIf (cT (c2 zc (c2 dIx (cV 1) (cC (.int 3))) (cC D.non))) (qy (v8 2 (nX 9 (λds=>qb (ds++[])) (a1 (nX 6 (λds=>pC (ds++[])) (aCons (c2 dIx (cV 1) (cC (.int 3))) (a1 (cC (.int 0))))))))) pG)
 (pX (Fd 2))))
def xa:=fnN 2 3 w9
def yB:FS:=(nP (oJ 2 (cL (nZ 1 [0] (iL (cV 1)) (gN 0) oQ (nN sy (aCons (cS "go") (aCons (cL (o6 xa (aCons (cV 1) (a1 (cV 0))))) (aCons (cL (n6 (a1 (nX 11 (λds=>rh (ds++[])) (aCons (cV 1) (a1 (c2 dIx (cV 0) (cC (.int 2))))))))) (a1 (cS "You go.")))))))))
 (pX (o4 (cV 2) (cL (n6 (a1 (nN oK (aCons (cS "go") (aCons (cL (n6 ox)) (a1 (cS "No way there.")))))))))))
def yC:=fnN 2 3 yB
def vP:FS:=(pX (n6 (a1 (nN sy (aCons (cS "wait") (aCons (cL (n6 ox)) (aCons (cL (n6 ox)) (a1 (cS "Time goes by.")))))))))
def vQ:=fnN 0 0 vP
def ur:FS:=(pX (o4 (cL (o4 (cL (o4 (cL (o4 (cL (o4 (cL (o6 vO (a1 (cV 0)))) (cL (o6 wZ ox)))) (cL (o6 w6 ox)))) (cL (o6 uQ ox)))) (cL (o6 yC (aCons (cV 0) (a1 (cV 1))))))) (cL (o6 vQ ox))))
def rX:=fnN 2 2 ur
def uu:FS:=(pX (o4 (cL (nZ 1 [] (iT (oP (aCons (cS "take") (aCons (cS "drop") (aCons (cS "open") (aCons (cS "shut") (aCons (cS "light") (a1 (cS "douse"))))))))) (gN 0) oQ (nX 2 (λds=>nQ (ds++[D.non,(D.str "one"),D.non])) (a1 (cV 0))))) (cL (n6 (aCons (nX 2 (λds=>nQ (ds++[])) (aCons (cS "put") (aCons (oP ox) (aCons (cS "two") (a1 (cS "in")))))) (aCons (nX 2 (λds=>nQ (ds++[D.non])) (aCons (cS "go") (aCons (oP ox) (a1 (cS "way"))))) (a1 (nX 2 (λds=>nQ (ds++[D.non])) (aCons (cS "wait") (aCons (oP ox) (a1 (cS "alone"))))))))))))
def qJ:=fnN 0 0 uu
def wm:FS:=(nP (zf 1)
 (nP (tU (iL (cV 0)) (gN 2) (qU 1 (c1 (n9 n8 "name") (cV 2)) (cV 2)))
 (oZ (cFz 1))))
def wo:=fnD 1 3 wm
def rp:FS:=(nP (zf 2)
 (nP (tU (iL (cV 0)) (gN 3) (sIf (cT (qz pI "has_mark" (cV 3) ox)) (qU 2 (c1 (n9 n8 "name") (cV 3)) (cC (.int 1))) pG))
 (nP (tU (iL (cV 1)) (gN 4) (qU 2 (c1 (n9 n8 "name") (cV 4)) (c1 (n9 rS "most") (cV 4))))
 (oZ (cFz 2)))))
def rq:=fnD 2 5 rp
def tR:FS:=(nP (zf 1)
 (nP (tU (iL (cV 0)) (gN 2) (tU (iT (wH (oP (a1 (c1 (n9 n8 "name") (cV 2)))) (c1 (n9 p9 "others") (cV 2)))) (gN 3) (qU 1 (cV 3) (cV 2))))
 (oZ (cFz 1))))
def pV:=fnD 1 4 tR
def zw:FS:=(BS (n9 Bb "verb"))
def wq:=fnD 1 3 zw
def tS:FS:=(pX (nZ 1 [1] (iL (c1 (n9 tN "kept_things") (cV 0))) (gN 0) (cT (c2 (dEq false) (c1 (n9 oV "kind") (cV 0)) (cV 1))) (c1 (n9 n8 "name") (cV 0))))
def rA:=fnD 2 2 tS
def sA:Nat->Option (List D->Option D):=λc=>match c with
 |14=>some rA
 |_=>none
def sh:FS:=(pX (o4 (c1 (n9 ug "kept_verbs") (cV 0)) (c1 (n9 sL "shared_verbs") (cV 0))))
def qK:=fnD 1 1 sh
def rB:Nat->Option (List D->Option D):=λc=>match c with
 |14=>some qK
 |_=>none
def pO:FS:=(nP (sXp oR (aCons (cV 1) (aCons (cV 2) (aCons (cV 3) (aCons (cV 4) (aCons (cV 5) (a1 (cL (o6 qJ ox)))))))))
 (nP (sNb (oA 14 0 "kept_things" (cL (uH (cV 1)))))
 (nP (sNb (oA 14 0 "kept_marks" (cL (uH (cV 2)))))
 (nP (sNb (oA 14 0 "kept_dark" (cL (uH (cV 3)))))
 (nP (sNb (oA 14 0 "kept_ways" (cL (uH (cV 4)))))
 (nP (sNb (oA 14 0 "kept_verbs" (cL (uH (cV 5)))))
 (nP (sNb (oA 14 0 "shared_verbs" (cL (o6 qJ ox))))
 (nP (sNb (oA 14 0 "your_name" (uJ 15 (c2 dIx (qz sA "of_kind" (cV 0) (a1 (cS "you"))) (cC (.int 0))))))
 (nP (sNb (oA 14 0 "things_by_name" (nN wo (a1 (cV 1)))))
 (nP (sNb (oA 14 0 "mosts_by_name" (nN rq (aCons (cV 1) (a1 (cV 2))))))
 (nP (sNb (oA 14 0 "verbs_by_word" (uJ 15 (nN pV (a1 (qz rB "all_verbs" (cV 0) ox))))))
 (nP (sNb (oJ 7 (uJ 15 (qt (nN oM (aCons (cV 6) (a1 (cC vF)))) (c1 ql (cL (nZ 1 [0] (iL (cV 6)) (gN 0) oQ z8)))))))
 (nP (sXp nI (aCons (cV 7) (a1 (cS "rules are a list of at most 20 rules, each as it may be"))))
 (nP (sNb (oA 14 0 "kept_rules" (cL (uH (cV 6)))))
 (nP (sNb (oA 14 0 "shared_rules" (uJ 15 (cL (o6 rX (aCons (c1 (n9 uK "your_name") (cV 0)) (a1 (cV 4))))))))
 (nP (sNb (oA 14 0 "copied_rules" (cL (nZ 1 [] (iL (cV 6)) (gN 0) oQ z8))))
 (sNb (oA 14 0 "rules_by_verb" (uJ 15 (nN wq (a1 (cL (o4 (c1 (n9 sI "copied_rules") (cV 0)) (c1 (n9 sJ "shared_rules") (cV 0)))))))))))))))))))))))))
def pP:=fnXI 14 6 8 pO
def uv:FS:=(nP (sIf (cT (c2 Ig (cV 1) (c1 p6 (cV 0)))) (oZ (c2 dIx (cV 0) (cV 1))) pG)
 (oZ (cC (.int 0))))
def qf:=fnD 2 2 uv
def rG:FS:=(nP (sIf (tL (cT (c2 (dEq false) (c1 p6 (cV 0)) (cC (.int 1))))) (nP (oJ 2 (sm (c2 dIx (cV 0) (cC (.int 0)))))
 (nP (sq 0 0 (c2 rQ (cV 2) (c1 Li (c2 K3 (cV 2) (c2 Fi (cC (.int 10)) (cC (.int 18)))))))
 (qy (HX 0 (n6 (aCons (c2 qk (cV 2) (cC (.int 2147483647))) (a1 (cC (.int 0))))))))) pG)
 (nP (sIf (tL (cT (c2 Fj (c2 dIx (cV 0) (cC (.int 0))) (cC (.int 0))))) (nP (oJ 3 (sm (c2 qk (c2 dIx (cV 0) (cC (.int 0))) (cV 1))))
 (nP (sq 0 0 (sm (c2 tK (c2 dIx (cV 0) (cC (.int 0))) (cV 1))))
 (oZ (cV 3)))) pG)
 (nP (sq 0 2 (sm (c2 qA (c2 dIx (cV 0) (cC (.int 2))) (cC (.int 1)))))
 (nP (oJ 4 (sm (c2 qk (c2 rQ (c2 qA (c2 qA (c2 dIx (cV 0) (cC (.int 1))) (c2 rQ (cC (.int 7919)) (c2 dIx (cV 0) (cC (.int 2))))) (cC (.int 1))) (cC (.int 48271))) (cC (.int 2147483647)))))
 (nP (oJ 4 (c2 qk (c2 rQ (cV 4) (c2 qA (c2 tK (cV 4) (cC (.int 1009))) (cC (.int 69621)))) (cC (.int 2147483647))))
 (oZ (c2 qk (c2 qk (c2 rQ (cV 4) (c2 qA (c2 tK (cV 4) (cC (.int 2003))) (cC (.int 40692)))) (cC (.int 2147483399))) (cV 1))))))))
def oo:=fnM 1 5 rG
def sC:FS:=(nP (oJ 1 (cL (tm (cL (n6 (aCons (cS "hall") (aCons (cS "x") (aCons (cS "cellar") (aCons (cS "loft") (a1 (cS "porch")))))))) oNo (oAt (c2 qA (cC (.int 1)) (rZ oo 0 (a1 (cC (.int 5)))))))))
 (nP (qN 2 (nZ 1 [] (iL (cV 1)) (gN 0) oQ (nX 0 (λds=>o7 (ds++[D.non])) (aCons (cV 0) (aCons (oP (aCons (cV 0) (a1 (cS "place")))) (a1 (cS "room")))))))
 (nP (qy (v8 2 (nX 0 (λds=>o7 (ds++[])) (aCons (cS "me") (aCons (oP (aCons (cS "me") (a1 (cS "self")))) (aCons (cS "you") (a1 (c2 dIx (cV 1) (rZ oo 0 (a1 (c1 p6 (cV 1))))))))))))
 (nP (qN 3 (o4 (cV 1) (cL (n6 (a1 (cS "me"))))))
 (nP (oJ 4 (cL (n6 (aCons (oP (aCons (cS "chest") (a1 (oP (aCons (cS "old") (a1 (cS "chest"))))))) (aCons (oP (aCons (cS "lamp") (a1 (oP (aCons (cS "lamp") (a1 (cS "red"))))))) (aCons (oP (aCons (cS "stone") (a1 (oP (aCons (cS "red") (a1 (cS "stone"))))))) (a1 (oP (aCons (cS "key") (a1 (oP (a1 (cS "key")))))))))))))
 (nP (oJ 5 (rZ oo 0 (a1 (cC (.int 4)))))
 (nP (tU (iR1 (rZ oo 0 (a1 (cC (.int 5))))) (gN 6) (nP (yN (c2 dIx (cV 4) (c2 qk (c2 qA (cV 6) (cV 5)) (cC (.int 4)))) (gT (rP (gN 7) (rP (gN 8) y9)) 2))
 (nP (oJ 9 (c2 dIx (cL (n6 (aCons (cS "plain") (aCons (cS "box") (aCons (cS "lamp") (a1 (cS "fixed"))))))) (rZ oo 0 (a1 (cC (.int 4))))))
 (nP (qy (v8 2 (nX 0 (λds=>o7 (ds++[])) (aCons (cV 7) (aCons (cV 8) (aCons (cV 9) (a1 (tT 3 (rZ oo 0 (a1 (sm (c1 p6 (cV 3)))))))))))))
 (sIf (cT (c2 (dEq false) (cV 9) (cS "box"))) (qy (v8 3 (cV 7))) pG)))))
 (pX (o4 (cFz 2) (cL (n6 (aCons (nX 0 (λds=>o7 (ds++[])) (aCons (cS "case") (aCons (oP (a1 (cS "case"))) (aCons (cS "box") (a1 (cS "hall")))))) (a1 (nX 0 (λds=>o7 (ds++[])) (aCons (cS "candle") (aCons (oP (a1 (cS "candle"))) (aCons (cS "lamp") (a1 (cS "me")))))))))))))))))))
def sD:=fnM 0 10 sC
def tH:FS:=(nP (oJ 1 (cL (n6 (aCons (nX 2 (λds=>nQ (ds++[(D.str "one"),D.non])) (aCons (cS "push") (a1 (oP (aCons (cS "shove") (a1 (cS "p"))))))) (aCons (nX 2 (λds=>nQ (ds++[])) (aCons (cS "tie") (aCons (oP ox) (aCons (cS "two") (a1 (cS "to")))))) (a1 (nX 2 (λds=>nQ (ds++[D.non])) (aCons (cS "sing") (aCons (oP (a1 (cS "hum"))) (a1 (cS "alone")))))))))))
 (nP (oJ 1 (cL (o4 (cV 1) (cL (n6 (aCons (nX 2 (λds=>nQ (ds++[D.non])) (aCons (cS "swim") (aCons (oP (a1 (cS "dive"))) (a1 (cS "way"))))) (a1 (nX 2 (λds=>nQ (ds++[])) (aCons (cS "hall") (aCons (oP (aCons (cS "place") (a1 (cS "gate")))) (aCons (cS "two") (a1 (cS "in")))))))))))))
 (nP (oJ 2 (rZ oo 0 (a1 (cC (.int 5)))))
 (pX (tm (cL (o4 (cL (tm (cV 1) (oAt (cV 2)) oNo)) (cL (tm (cV 1) oNo (oAt (cV 2)))))) oNo (oAt (rZ oo 0 (a1 (cC (.int 5))))))))))
def tI:=fnM 0 3 tH
def uR:FS:=(nP (oJ 0 (cL (n6 (aCons (cS "it") (aCons (cS "here") (aCons (cS "the") (aCons (cS "a") (aCons (cS "undo") (aCons (cS "restart") (aCons (cS "") (aCons (cS "Odd") (aCons (cS "ninesigns") (aCons (cC D.non) (aCons (cC (.int 5)) (aCons (cS "b2") (a1 (oP (a1 (cS "odd")))))))))))))))))))
 (nP (oJ 0 (cL (o4 (cV 0) (cL (n6 (aCons (cS "take") (aCons (cS "drop") (aCons (cS "put") (aCons (cS "open") (aCons (cS "shut") (aCons (cS "light") (aCons (cS "douse") (aCons (cS "go") (aCons (cS "wait") (aCons (cS "case") (aCons (cS "candle") (a1 (cS "in"))))))))))))))))))
 (nP (oJ 1 (cL (o4 (cL (nZ 1 [] (iL (cV 0)) (gN 0) oQ (cL (n6 (a1 (nX 2 (λds=>nQ (ds++[D.non,(D.str "one"),D.non])) (a1 (cV 0)))))))) (cL (nZ 1 [] (iL (cV 0)) (gN 0) oQ (cL (n6 (a1 (nX 2 (λds=>nQ (ds++[(D.str "one"),D.non])) (aCons (cS "odd") (a1 (oP (a1 (cV 0))))))))))))))
 (nP (oJ 1 (cL (o4 (cV 1) (cL (n6 (aCons (cL (n6 (a1 (nX 2 (λds=>nQ (ds++[(D.str "one"),D.non])) (aCons (cS "odd") (a1 (oP (a1 (cS "odd"))))))))) (aCons (cL (n6 (a1 (nX 2 (λds=>nQ (ds++[(D.str "one"),D.non])) (aCons (cS "odd") (a1 (oP (aCons (cS "even") (a1 (cS "even")))))))))) (a1 (cL (n6 (aCons (nX 2 (λds=>nQ (ds++[D.non,(D.str "one"),D.non])) (a1 (cS "odd"))) (a1 (nX 2 (λds=>nQ (ds++[D.non])) (aCons (cS "odd") (aCons (oP ox) (a1 (cS "alone")))))))))))))))))
 (nP (oJ 1 (cL (o4 (cV 1) (cL (n6 (aCons (cL (n6 (aCons (nX 2 (λds=>nQ (ds++[(D.str "one"),D.non])) (aCons (cS "odd") (a1 (oP (a1 (cS "even")))))) (a1 (nX 2 (λds=>nQ (ds++[D.non,(D.str "one"),D.non])) (a1 (cS "even"))))))) (a1 (cL (n6 (aCons (nX 2 (λds=>nQ (ds++[(D.str "one"),D.non])) (aCons (cS "odd") (a1 (oP (a1 (cS "even")))))) (a1 (nX 2 (λds=>nQ (ds++[(D.str "one"),D.non])) (aCons (cS "third") (a1 (oP (aCons (cS "x") (a1 (cS "even"))))))))))))))))))
 (pX (o4 (cV 1) (cL (n6 (aCons (cL (n6 (a1 (nX 2 (λds=>nQ (ds++[(D.str "one"),D.non])) (aCons (cS "odd") (a1 (cL (n6 (a1 (cS "even")))))))))) (aCons (cL (n6 (a1 (nX 2 (λds=>nQ (ds++[(D.str "one"),D.non])) (aCons (cS "odd") (a1 (cS "even"))))))) (aCons (cL (n6 (a1 (nX 2 (λds=>nQ (ds++[(D.str "one"),D.non])) (aCons (cS "odd") (a1 (cC (.int 7)))))))) (a1 (cL (n6 (a1 (nX 2 (λds=>nQ (ds++[(D.str "one"),D.non])) (aCons (cS "odd") (a1 (oP (aCons (cS "x") (a1 (cC (.int 3))))))))))))))))))))))))
def qp:=fnD 0 2 uR
def uS:FS:=(nP (qN 0 (nZ 1 [] (iL (cL (n6 (aCons (cS "") (aCons (cS "three") (aCons (cC D.non) (aCons (cS "One") (aCons (cC (.int 2)) (aCons (cS "two") (aCons (cS "ways") (a1 (cL (n6 (a1 (cS "one"))))))))))))))) (gN 0) oQ (cL (n6 (a1 (nX 2 (λds=>nQ (ds++[D.non])) (aCons (cS "odd") (aCons (oP ox) (a1 (cV 0))))))))))
 (nP (tU (iL (cL (n6 (aCons (cS "alone") (aCons (cS "one") (a1 (cS "way"))))))) (gN 1) (qy (v8 0 (cL (n6 (a1 (nX 2 (λds=>nQ (ds++[])) (aCons (cS "odd") (aCons (oP ox) (aCons (cV 1) (a1 (cS "with"))))))))))))
 (nP (oJ 2 (cL (n6 (aCons (cC D.non) (aCons (cS "") (aCons (cS "the") (aCons (cS "a") (aCons (cS "With") (aCons (cS "thirteensigns") (aCons (cC (.int 3)) (aCons (cS "b2") (aCons (cS "take") (aCons (cS "go") (aCons (cS "undo") (a1 (cS "restart"))))))))))))))))
 (nP (oJ 2 (cL (o4 (cV 2) (cL (n6 (aCons (cS "case") (a1 (cS "candle"))))))))
 (nP (qN 0 (o4 (cFz 0) (cL (nZ 1 [] (iL (cV 2)) (gN 0) oQ (cL (n6 (a1 (nX 2 (λds=>nQ (ds++[])) (aCons (cS "odd") (aCons (oP ox) (aCons (cS "two") (a1 (cV 0)))))))))))))
 (pX (o4 (cFz 0) (cL (n6 (aCons (cL (n6 (a1 (nX 2 (λds=>nQ (ds++[])) (aCons (cS "odd") (aCons (oP ox) (aCons (cS "two") (a1 (cS "odd"))))))))) (aCons (cL (n6 (a1 (nX 2 (λds=>nQ (ds++[])) (aCons (cS "odd") (aCons (oP (a1 (cS "even"))) (aCons (cS "two") (a1 (cS "even"))))))))) (a1 (cL (n6 (a1 (nX 2 (λds=>nQ (ds++[D.non,(D.str "one"),D.non])) (a1 (cS "north"))))))))))))))))))
def qq:=fnD 0 3 uS
def rY:FS:=(nP (oJ 0 (cL (n6 (aCons (cS "take") (aCons (cS "go") (aCons (cS "undo") (aCons (cS "restart") (aCons (cS "case") (aCons (cS "candle") (a1 (cS "north")))))))))))
 (nP (qN 1 (nZ 1 [] (iL (cV 0)) (gN 0) oQ (oP (aCons (cC (.int 2)) (a1 (cL (n6 (a1 (oP (aCons (cS "hall") (aCons (cV 0) (aCons (cS "hall") (a1 (cC D.non))))))))))))))
 (nP (tU (iL (cL (n6 (aCons (cS "take") (aCons (cS "wait") (aCons (cS "in") (aCons (cS "north") (a1 (cS "put"))))))))) (gN 2) (qy (v8 1 (oP (aCons (cC (.int 0)) (a1 (cL (n6 (a1 (nX 0 (λds=>o7 (ds++[])) (aCons (cS "odd") (aCons (oP (aCons (cS "odd") (a1 (cV 2)))) (aCons (cS "plain") (a1 (cS "hall")))))))))))))))
 (pX (Fd 1)))))
def pQ:=fnD 0 3 rY
def qM:FS:=(nP (sTry pP (aCons (cV 0) (aCons (cL (n6 (a1 (nX 1 (λds=>rg (ds++[])) (aCons (cS "gate") (aCons (cC (.int 0)) (a1 (cC (.int 1))))))))) (aCons (cL (n6 ox)) (aCons (cV 1) (aCons (cV 2) (a1 (cL (n6 ox)))))))) (oZ (cC (.bl true))))
 (oZ (cC (.bl false))))
def oe:=fnD 3 3 qM
def Dc:FS:=(nP (qN 1 (n6 (a1 (nN qf (aCons (cV 0) (a1 (cC (.int 0))))))))
 (nP (oJ 2 (rZ sD 1 ox))
 (nP (oJ 3 (cL (n6 (aCons (oP (aCons (cS "hall") (aCons (cS "north") (aCons (cS "hall") (a1 (cC D.non)))))) (a1 (oP (aCons (cS "hall") (aCons (cS "up") (aCons (cS "hall") (a1 (cS "gate")))))))))))
 (nP (oJ 4 (rZ tI 1 ox))
 (nP (sIf (cT (nN oe (aCons (cV 2) (aCons (cV 3) (a1 (cV 4)))))) (oZ (cC (.bl false))) pG)
 (nP (oJ 5 (cL (o4 (cL (nZ 1 [] (iL (cL (o4 (nN qp ox) (nN qq ox)))) (gN 0) oQ (oP (aCons (cC (.int 1)) (a1 (cV 0)))))) (nN pQ ox))))
 (nP (tU (iR2 (cC (.int 1)) (c2 dMax2 (cC (.int 2)) (c2 dMin2 (cC (.int 40)) (c1 p6 (cV 0))))) (gN 6) (nP (oJ 7 (nN qf (aCons (cV 0) (a1 (cV 6)))))
 (nP (yN (c2 dIx (cV 5) (c2 qk (c2 qA (cV 7) (c2 rQ (cC (.int 7)) (cV 6))) (c1 p6 (cV 5)))) (gT (rP (gN 8) (rP (gN 9) y9)) 2))
 (nP (qN 10 (n6 (aCons (cV 2) (aCons (cV 4) (a1 (cV 3))))))
 (nP (oJ 11 (sm (c2 qk (c2 tK (cV 7) (c1 p6 (cV 5))) (c2 qA (c1 p6 (c2 dIx (cV 10) (cV 8))) (cC (.int 1))))))
 (nP (sIxPut 10 8 (cL (o4 (cL (o4 (cL (tm (tT 10 (cV 8)) oNo (oAt (cV 11)))) (cV 9))) (cL (tm (tT 10 (cV 8)) (oAt (cV 11)) oNo)))))
 (sIf (tL (qG (cT (nN oe (aCons (c2 dIx (cV 10) (cC (.int 0))) (aCons (c2 dIx (cV 10) (cC (.int 2))) (a1 (c2 dIx (cV 10) (cC (.int 1)))))))))) (oZ (cC (.bl false))) pG)))))))
 (nP (oJ 12 (cL (n6 (aCons (nX 2 (λds=>nQ (ds++[D.non])) (aCons (cS "me") (aCons (oP (aCons (cS "self") (a1 (cS "loft")))) (a1 (cS "way"))))) (a1 (nX 2 (λds=>nQ (ds++[])) (aCons (cS "x") (aCons (oP (aCons (cS "porch") (a1 (cS "luck")))) (aCons (cS "two") (a1 (cS "cellar")))))))))))
 (oZ (qt (vY (nN oe (aCons (cV 2) (aCons (cV 3) (a1 (cV 12)))))) (vY (nN oe (aCons (cV 2) (aCons (cV 3) (a1 (cV 4))))))))))))))))
def JO:=fnD 1 13 Dc
theorem yD{b q r n:Int}{s2:Sl}(h0:0<b)(h1:b<1073741824):∃d es' ρ,(nP (sIf (tL (cT (c2 Fj (c2 dIx (cV 0) (cC (.int 0))) (cC (.int 0))))) (nP (oJ 3 (sm (c2 qk (c2 dIx (cV 0) (cC (.int 0))) (cV 1))))
 (nP (sq 0 0 (sm (c2 tK (c2 dIx (cV 0) (cC (.int 0))) (cV 1))))
 (oZ (cV 3)))) pG)
 (nP (sq 0 2 (sm (c2 qA (c2 dIx (cV 0) (cC (.int 2))) (cC (.int 1)))))
 (nP (oJ 4 (sm (c2 qk (c2 rQ (c2 qA (c2 qA (c2 dIx (cV 0) (cC (.int 1))) (c2 rQ (cC (.int 7919)) (c2 dIx (cV 0) (cC (.int 2))))) (cC (.int 1))) (cC (.int 48271))) (cC (.int 2147483647)))))
 (nP (oJ 4 (c2 qk (c2 rQ (cV 4) (c2 qA (c2 tK (cV 4) (cC (.int 1009))) (cC (.int 69621)))) (cC (.int 2147483647))))
 (oZ (c2 qk (c2 qk (c2 rQ (cV 4) (c2 qA (c2 tK (cV 4) (cC (.int 2003))) (cC (.int 40692)))) (cC (.int 2147483399))) (cV 1)))))))
  [.pm [.int q,.int r,.int n],.im (.int b),s2,.un,.un]=some (.rt (.int d) ρ)/\vt ρ=some es'/\0<=d/\d<b/\uX es':=by
 have hc:tL (cT (c2 Fj (c2 dIx (cV 0) (cC (.int 0))) (cC (.int 0)))) [.pm [.int q,.int r,.int n],.im (.int b),s2,.un,.un]=some (decide (0<q),[.pm [.int q,.int r,.int n],.im (.int b),s2,.un,.un]):=rfl;by_cases hq:0<q
 ·rw[bc hq]at hc;refine⟨q % b,[.int (q / b),.int r,.int n],[.pm [.int (q / b),.int r,.int n],.im (.int b),s2,.im (.int (q % b)),.un],?_,rfl,eJ _ (by omega),eC _ h0,.inr ⟨_,_,_,rfl⟩⟩;rw[rL (d:=.int (q % b)) (ρ':=[.pm [.int (q / b),.int r,.int n],.im (.int b),s2,.im (.int (q % b)),.un])];rw[sZ hc,nJ (o9 (xZ (om rfl rfl (se h0)) rfl)),nJ (AW (k:=0) (xZ (om rfl rfl (div_pos h0 h1)) rfl) rfl rfl)];rfl
 ·rw[bh hq]at hc;rw[nJ (show _=some (Out.nx [.pm [.int q,.int r,.int n],.im (.int b),s2,.un,.un]) from by rw[rE hc];rfl)];rw[nJ (show _=some (Out.nx [.pm [.int q,.int r,.int (n+1)],.im (.int b),s2,.un,.un]) from rfl)];have h7:sk 7919=true:=by decide
  have h4:sk 48271=true:=by decide
  rw[nJ (o9 (xZ (d:=.int ((r+7919 * (n+1)+1) * 48271 % 2147483647)) (om (om (om (om rfl (om rfl rfl (rM (.inl h7))) rfl) rfl rfl) rfl (rM (.inr h4))) rfl (se (by decide))) rfl))];generalize hg:(r+7919 * (n+1)+1) * 48271 % 2147483647=g;have g0:0<=g/\g<2147483647:=by rw[<-hg];exact⟨eJ _ (by decide),eC _ (by decide)⟩
  rw[nJ (o9 (d:=.int (g * (g / 1009+69621) % 2147483647)) (om (om rfl (om (om rfl rfl (div_pos (by decide) (by decide))) rfl rfl) (rM (.inl (AX g0.1 g0.2)))) rfl (se (by decide))))];generalize hh:g * (g / 1009+69621) % 2147483647=m;have m0:0<=m/\m<2147483647:=by rw[<-hh];exact⟨eJ _ (by decide),eC _ (by decide)⟩
  rw[qv (d:=.int (m * (m / 2003+40692) % 2147483399 % b)) (om (om (om rfl (om (om rfl rfl (div_pos (by decide) (by decide))) rfl rfl) (rM (.inl (AX m0.1 m0.2)))) rfl (se (by decide))) rfl (se h0))];exact⟨_,[.int q,.int r,.int (n+1)],_,rfl,rfl,eJ _ (by omega),eC _ h0,.inr ⟨_,_,_,rfl⟩⟩
variable{es:List L4.D}
theorem Bc{b:Int}(h:uX es)(h0:0<b)(h1:b<1073741824):∃d es',oo es [.int b]=some (.int d,es')/\0<=d/\d<b/\uX es':=by
 rcases h with ⟨c,rfl⟩|⟨q,r,n,rfl⟩
 ·obtain⟨d,es',ρ,e,p,q1,q2,q3⟩:=yD (q:=c * (if decide ((10:Int) ^ (18:Int).toNat<=c)=true then 1 else 0)) (r:=c % 2147483647) (n:=0) (s2:=.im (.int c)) h0 h1;refine⟨d,es',FB rfl ?_ p,q1,q2,q3⟩;unfold rG;rw[nJ (ρ':=[.pm [.int (c * (if decide ((10:Int) ^ (18:Int).toNat<=c)=true then 1 else 0)),.int (c % 2147483647),.int 0],.im (.int b),.im (.int c),.un,.un])]
  ·exact e
  ·show sIf _ _ _ [.pm [.int c],.im (.int b),.un,.un,.un]=_;rw[sZ (ρ':=[.pm [.int c],.im (.int b),.un,.un,.un]) rfl,nJ (show _=some (Out.nx [.pm [.int c],.im (.int b),.im (.int c),.un,.un]) from rfl)];rw[nJ (AW (k:=0) (ds:=[.int c]) (om rfl rfl (rM (.inr (by split<;>decide)))) rfl rfl)];rfl
 ·obtain⟨d,es',ρ,e,p,q1,q2,q3⟩:=yD (q:=q) (r:=r) (n:=n) (s2:=.un) h0 h1;refine⟨d,es',FB rfl ?_ p,q1,q2,q3⟩;unfold rG;rw[nJ (ρ':=[.pm [.int q,.int r,.int n],.im (.int b),.un,.un,.un])]
  ·exact e
  ·show sIf _ _ _ [.pm [.int q,.int r,.int n],.im (.int b),.un,.un,.un]=_;rw[rE (ρ':=[.pm [.int q,.int r,.int n],.im (.int b),.un,.un,.un]) rfl];rfl
variable{a:FE}
theorem dgx{b:Int}{i:Nat}(st:List L4.D->List Sl)(hp:∀es,pd (st es) i=some es)(hq:∀es es',putAt (st es) i es'=st es')(ha:a (st es)=some (.int b,st es))(hs:uX es)(h0:0<b)(h1:b<1073741824):∃d es',rZ oo i (a1 a) (st es)=some (.int d,st es')/\0<=d/\d<b/\uX es':=by obtain⟨d,es',e,q1,q2,q3⟩:=Bc hs h0 h1;exact⟨d,es',by rw[<-hq es es'];exact z6 (hp es) (nU ha rfl) (hp es) e,q1,q2,q3⟩
variable{e:FE}
theorem pk{L:List L4.D}{i:Nat}(st:List L4.D->List Sl)(hp:∀es,pd (st es) i=some es)(hq:∀es es',putAt (st es) i es'=st es')(he:e (st es)=some (.lst L,st es))(ha:a (st es)=some (.int L.length,st es))(hs:uX es)(h0:L≠[])(h1:L.length<=1000):∃d∈L,∃es',c2 dIx e (rZ oo i (a1 a)) (st es)=some (d,st es')/\uX es':=by
 have hp0:0<L.length:=jI.mpr h0;obtain⟨d,es',e1,q1,q2,q3⟩:=dgx st hp hq ha hs (by omega) (by omega);obtain⟨m,rfl⟩:=cH q1;have hm:m<L.length:=by omega
 exact⟨L[m],dS hm,es',om he e1 (sd (aS hm)),q3⟩
variable{q:List L4.D->Option Bool}
section
variable{k:Nat}{cap:List Nat}{g:FG}{ft:FT}{fe e:FE}{s a:FA}{ρ ρ1 ρ2:List Sl}{α:Type}{f f2:FS}{np n:Nat}{ds:List L4.D}
theorem oY{m:L4.D}(h:e ρ=some (.bl true,ρ1)):sXp nI (aCons e (aCons (cC m) ox)) ρ=some (.nx ρ1):=by unfold sXp;rw[nU h (nU rfl rfl)];rfl
theorem uw{m:L4.D}(h:e ρ=some (.bl false,ρ1)):sXp nI (aCons e (aCons (cC m) ox)) ρ=some (.bk ρ1):=by unfold sXp;rw[nU h (nU rfl rfl)];rfl
theorem xc(h:f ρ=some (.bk ρ1)):nP f f2 ρ=some (.bk ρ1):=by unfold nP;rw[h]
theorem qP(h:f ρ=some (.nx ρ1)):sNb f ρ=some (.nx ρ1):=by unfold sNb;rw[h]
theorem Bd(h:ds.length=np)(e:f (stE n ds)=some (.nx ρ)):fnX np n f ds=some true:=by unfold fnX;rw[ag h,e]
theorem vR(h:ds.length=np)(e:f (stE n ds)=some (.bk ρ)):fnX np n f ds=some false:=by unfold fnX;rw[ag h,e]
theorem wt(h:a ρ=some (ds,ρ1))(e:q ds=some true):sXp q a ρ=some (.nx ρ1):=by unfold sXp;rw[h];simp only[e]
theorem Jb(h:a ρ=some (ds,ρ1))(e:q ds=some false):sXp q a ρ=some (.bk ρ1):=by unfold sXp;rw[h];simp only[e]
theorem vS(dd h:α->L4.D)(l:List α)(hs:s ρ=some (l.map dd,ρ1))(hl:l.length<=1000)(st:∀a∈l,∃ρ2 ρ3,g (dd a) (xj k cap ρ1)=some ρ2/\fe ρ2=some (h a,ρ3)/\qO cap (ρ3.drop k) ρ1=some ρ1):
  nZ k cap s g oQ fe ρ=some (l.map h,ρ1):=(CC hs (by rw[ai];exact hl)).trans (IJ dd h l st)
theorem ux(dd h:α->L4.D)(p:α->Bool)(l:List α)(hs:s ρ=some (l.map dd,ρ1))(hl:l.length<=1000)
  (st:∀a∈l,∃ρ2 ρ3,g (dd a) (xj k cap ρ1)=some ρ2/\ft ρ2=some (p a,ρ3)/\(p a=true->∃ρ4,fe ρ3=some (h a,ρ4)/\qO cap (ρ4.drop k) ρ1=some ρ1)/\(p a=false->qO cap (ρ3.drop k) ρ1=some ρ1)):
  nZ k cap s g ft fe ρ=some ((l.filter p).map h,ρ1):=(CC hs (by rw[ai];exact hl)).trans (ye dd p h l st)
theorem rH(dd:α->L4.D)(p:α->Bool)(l:List α)(hs:s ρ=some (l.map dd,ρ1))(hl:l.length<=1000)(st:∀a∈l,∃ρ2 ρ3,g (dd a) (xj k cap ρ1)=some ρ2/\fe ρ2=some (.bl (p a),ρ3)/\qO cap (ρ3.drop k) ρ1=some ρ1):
  c1 ql (cL (nZ k cap s g oQ fe)) ρ=some (.bl (l.all p),ρ1):=oI (p7 (vS dd (λa=>.bl (p a)) l hs hl st)) (IM l p)
theorem Dd(dd:α->L4.D)(p:α->Bool)(l:List α)(hs:s ρ=some (l.map dd,ρ1))(hl:l.length<=1000)(st:∀a∈l,∃ρ2 ρ3,g (dd a) (xj k cap ρ1)=some ρ2/\fe ρ2=some (.bl (p a),ρ3)/\qO cap (ρ3.drop k) ρ1=some ρ1):
  c1 x9 (cL (nZ k cap s g oQ fe)) ρ=some (.bl (l.any p),ρ1):=oI (p7 (vS dd (λa=>.bl (p a)) l hs hl st)) (IP l p)
end
theorem M5{α:Type}{l:List α}{p:α->Bool}{a:α}(h:a∈l)(e:p a=false):l.all p=false:=by rw[fH];intro z;rw[aw.mp z a h]at e;cases e
theorem pz{α:Type}{l:List α}{p:α->Bool}(h:∀a∈l,p a=true):l.all p=true:=aw.mpr h
def isT:Option L4.D->Bool
 |some (.bl b)=>b
 |_=>false
def isB:Option L4.D->Bool
 |some (.bl _)=>true
 |_=>false
variable{o:Option L4.D}
theorem Ah(h:isB o=true):o=some (.bl (isT o)):=by
 unfold isB at h;split at h
 ·rfl
 ·cases h
theorem vd(h:isT o=true):o=some (.bl true):=by
 unfold isT at h;split at h
 ·rw[h]
 ·cases h
inductive Kd where
 |room|you|plain|fixed|box|lamp
deriving DecidableEq
def Kd.s:Kd->Str
 |.room=>"room" |.you=>"you" |.plain=>"plain" |.fixed=>"fixed" |.box=>"box" |.lamp=>"lamp"
def Kd.pl:Kd->Bool
 |.room=>false|.you=>false|_=>true
def Kd.hd:Kd->Bool
 |.room=>true|.you=>true|.box=>true|_=>false
def Kd.mk:Kd->Bool
 |.box=>true|.lamp=>true|_=>false
structure Tk where
 n:L4.D
 w:L4.D
 k:Kd
 s:L4.D
def tkD(t:Tk):L4.D:=.obj 0 ["name", "words", "kind", "start"] [t.n,t.w,.str t.k.s,t.s]
abbrev LD(T:List Tk):L4.D:=.lst (T.map tkD)
theorem zx(a b:Kd):dEq false (.str a.s) (.str b.s)=some (.bl (decide (a=b))):=by cases a<;>cases b<;>kernel_rfl
theorem wu(t:Tk):n9 oV "kind" (tkD t)=some (.str t.k.s):=rfl
theorem sE(t:Tk):n9 n8 "name" (tkD t)=some t.n:=rfl
theorem xy(t:Tk):n9 pj "words" (tkD t)=some t.w:=rfl
theorem xA(t:Tk):n9 qj "start" (tkD t)=some t.s:=rfl
theorem Jc(t:Tk):sN [tkD t]=some (.bl t.k.hd):=by obtain⟨n,w,k,s⟩:=t;cases k<;>kernel_rfl
theorem De(t:Tk):sP [tkD t]=some (.bl t.k.mk):=by obtain⟨n,w,k,s⟩:=t;cases k<;>kernel_rfl
theorem Gm(t:Tk):rW [tkD t]=some (.bl t.k.pl):=by obtain⟨n,w,k,s⟩:=t;cases k<;>kernel_rfl
theorem Jd(k:Kd):oG [.str k.s,xw]=some (.bl true):=by cases k<;>kernel_rfl
def cK(k:Kd)(T:List Tk):Nat:=(T.filter λt=>decide (t.k=k)).length
def plN(T:List Tk):List Tk:=T.filter λt=>t.k.pl
theorem count_eq(T:List Tk)(hl:T.length<=1000)(k:Kd):qX [LD T,.str k.s]=some (.int (cK k T)):=by refine p8 (ρ:=[.im (LD T),.im (.str k.s)]) rfl ?_;refine qv (oI (p7 (ux tkD tkD (λt=>decide (t.k=k)) T (ρ1:=[.im (LD T),.im (.str k.s)]) rfl hl λt _=>⟨[.im (tkD t),.im (.str k.s)],[.im (tkD t),.im (.str k.s)],rfl,wc (om (oI rfl (wu t)) rfl (zx t.k k)),λ_=>⟨_,rfl,rfl⟩,λ_=>rfl⟩)) ?_);show some (D.int _)=_;rw[ai];rfl
theorem sF(T:List Tk)(hl:T.length<=1000):pM [LD T]=some ((plN T).map tkD):=by refine FD (ρ:=[.im (LD T)]) rfl ?_;exact uA (ux tkD tkD (λt=>t.k.pl) T (ρ1:=[.im (LD T)]) rfl hl λt _=>⟨[.im (tkD t)],[.im (tkD t)],rfl,wc (uB (xs:=[t.n,t.w,.str t.k.s,t.s]) (ys:=[]) rfl rfl rfl rfl (Gm t)),λ_=>⟨_,rfl,rfl⟩,λ_=>rfl⟩)
variable{ρ:List Sl}{y:Int}
theorem Gp{b c:FE}{x z:Int}(h1:a ρ=some (.int x,ρ))(h2:b ρ=some (.int y,ρ))(h3:c ρ=some (.int z,ρ))(hx:x<=y)(hy:y<=z):qu r6 r6 a b c ρ=some (.bl true,ρ):=by
 unfold qu;rw[h1];simp only[h2];have e1:r6 (.int x) (.int y)=some (.bl true):=by show some (D.bl (decide (x<=y)))=_;rw[bc hx]
 have e2:r6 (.int y) (.int z)=some (.bl true):=by show some (D.bl (decide (y<=z)))=_;rw[bc hy]
 simp only[e1,h3,e2]
theorem JP{b:FE}{x:Int}(h1:a ρ=some (.int x,ρ))(h2:b ρ=some (.int y,ρ))(hx:x<=y):c2 r6 a b ρ=some (.bl true,ρ):=om h1 h2 (by
 show some (D.bl (decide (x<=y)))=_;rw[bc hx])
section
variable{T:List Tk}(hl:T.length<=1000)(h1:1<=cK .room T)(h5:cK .room T<=5)
include hl h1 h5
theorem Je{r:FS}:∃ρ:List Sl,ρ=[.im (LD T),.im (.bl true)]/\(∀o,r ρ=some o->(nP (sNb (oJ 1 (qt (c1 (qB (pT "list")) (cV 0)) (c1 ql (cL (nZ 1 [] (iL (cV 0)) (gN 0) oQ (c1 (qB Ag) (cV 0))))))))
 (nP (sXp nI (aCons (cV 1) (a1 (cS "things are a list of things"))))
 (nP (sXp nI (aCons (c1 ql (cL (nZ 1 [] (iL (cV 0)) (gN 0) oQ (nN oG (aCons (c1 (n9 oV "kind") (cV 0)) (a1 (cC xw))))))) (a1 (cS "a thing is of no kind"))))
 (nP (sXp nI (aCons (qu r6 r6 (cC (.int 1)) (nN qX (aCons (cV 0) (a1 (cS "room")))) (cC tD)) (a1 (cS "a world has 1 to 5 rooms")))) r)))) [.im (LD T),.un]=some o):=by
 refine⟨_,rfl,λo h=>?_⟩;let ρ:List Sl:=[.im (LD T),.im (.bl true)];rw[nJ (qP (show _=some (Out.nx ρ) from(o9 ((qH rfl).trans ((rH tkD (λ_=>true) T (ρ1:=[.im (LD T),.un]) rfl hl λt ht=>⟨_,_,rfl,rfl,rfl⟩).trans (by rw[pz λ_ _=>rfl])))).trans rfl))];rw[nJ (oY (ρ1:=ρ) rfl)];rw[nJ (oY (ρ1:=ρ) ((rH tkD (λ_=>true) T rfl hl λt _=>⟨[.im (tkD t)],[.im (tkD t)],rfl,n5 (nU (oI rfl (wu t)) (nU rfl rfl)) (Jd t.k),rfl⟩).trans (by rw[pz λ_ _=>rfl])))];rw[nJ (oY (ρ1:=ρ) (Gp (x:=1) (y:=cK .room T) (z:=5) rfl (n5 (ds:=[LD T,.str Kd.room.s]) rfl (count_eq T hl .room)) rfl (by omega) (by omega)))];exact h
theorem OC(hy:cK .you T=1)(h7:(plN T).length<=7):qd [LD T]=some true:=by
 let ρ:List Sl:=[.im (LD T),.im (.bl true)];obtain⟨_,rfl,h⟩:=Je hl h1 h5 (r:=(nP (sXp nI (aCons (c2 (dEq false) (nN qX (aCons (cV 0) (a1 (cS "you")))) (cC (.int 1))) (a1 (cS "a world has just one you"))))
 (sXp nI (aCons (c2 r6 (c1 p6 (cL (o6 pM (a1 (cV 0))))) (cC sv)) (a1 (cS "a world has at most 7 things beside rooms and you"))))))
 refine Bd (ρ:=ρ) rfl (h _ ?_);rw[nJ (oY (ρ1:=ρ) (om (ρ1:=ρ) (x:=.int (cK .you T)) (y:=.int 1) (n5 (ds:=[LD T,.str Kd.you.s]) rfl (count_eq T hl .you)) rfl (by rw[hy];rfl)))];refine oY (ρ1:=ρ) (JP (x:=(plN T).length) (y:=7) (oI (p7 (n5 rfl (sF T hl))) ?_) rfl (by omega));show some (D.int _)=_;rw[ai]
end
theorem Be{α:Type}{p q:α->Bool}:∀{l:List α},(∀a∈l,p a=q a)->l.all p=l.all q
 |[],_=>rfl
 |a::l,h=>by rw[cy,cy,h a aH,Be λb hb=>h b (aM _ hb)]
def kS(x:Str):Key:=Sum.inr x
theorem M6{a b:Str}(h:kS a=kS b):a=b:=gy h
theorem BY:∀(ks acc:List Key),acc.Nodup->(ks.foldl ddp acc).Nodup/\(ks.foldl ddp acc).length<=acc.length+ks.length/\((ks.foldl ddp acc).length=acc.length+ks.length->(acc++ks).Nodup)
 |[],acc,h=>⟨h,aC _,λ_=>by rw[bK];exact h⟩
 |k::ks,acc,h=>by
  rw[cP,aE];by_cases hn:acc.any (λz=>decide (z=k))=true
  ·rw[show ddp acc k=acc from ag hn];obtain⟨h1,h2,h3⟩:=BY ks acc h;exact⟨h1,by omega,λz=>by omega⟩
  ·rw[show ddp acc k=acc++[k] from ah hn];have hk:k∉acc:=λz=>hn (bS.mpr ⟨k,z,bc rfl⟩);have h':(acc++[k]).Nodup:=bO.mpr ⟨h,by simp,λa ha b hb e=>by rw[bg]at hb;subst hb e;exact hk ha⟩;obtain⟨h1,h2,h3⟩:=BY ks (acc++[k]) h';rw[aB,bY]at h2 h3;exact⟨h1,by omega,λz=>by have:=h3 (by omega);rw[bJ]at this;exact this⟩
theorem zy:∀l:List Str,uI (l.map D.str)=some (l.map kS)
 |[]=>rfl
 |x::l=>by show (match xl (.str x),uI (l.map D.str)with|some k,some ks=>some (k::ks)|_,_=>none)=_;rw[zy l];rfl
variable{l:List Str}
theorem OD(h:(l.map kS).Nodup):l.Nodup:=(j1.mp h).imp λhne z=>hne (aL kS z)
theorem Ej(h:¬l.Nodup)(hl:l.length<=1000):∃m:Nat,m<l.length/\qg (l.map D.str)=some (.int m):=by
 obtain⟨h1,h2,h3⟩:=BY (l.map kS) [] iC;rw[ai,dE,gq]at h2 h3;refine⟨(rR (l.map kS)).length,?_,?_⟩
 ·rcases jT h2 with z|z
  ·exact z
  ·exact ak (OD (h3 z)) h
 ·unfold qg;rw[zy];simp only;rw[ag (by rw[ai];exact hl)]
theorem yE(hl:l.length<=1000):oj [.lst (l.map D.str)]=some (.bl (decide l.Nodup)):=by
 refine p8 (ρ:=[.im (.lst (l.map D.str))]) rfl ?_;have el:c1 p6 (cV 0) [.im (.lst (l.map D.str))]=some (.int l.length,[.im (.lst (l.map D.str))]):=oI rfl (by show some (D.int _)=_;rw[ai]);by_cases h:l.Nodup
 ·refine qv (om (x:=.int l.length) (y:=.int l.length) (oI rfl (CK (A7 h hl))) el ?_);rw[CN];simp[h]
 ·obtain⟨m,h1,h2⟩:=Ej h hl;refine qv (om (x:=.int m) (y:=.int l.length) (oI rfl (CK h2)) el ?_);rw[CN];simp[h];omega
structure Mk where
 n:Str
 st:Int
 mo:Int
def mkD(m:Mk):L4.D:=.obj 1 ["name", "start", "most"] [.str m.n,.int m.st,.int m.mo]
abbrev MD(M:List Mk):L4.D:=.lst (M.map mkD)
theorem Dg(m:Mk):n9 n8 "name" (mkD m)=some (.str m.n):=rfl
section
variable{T:List Tk}{M:List Mk}(hT:T.length<=400)(hM:M.length<=400)(hm:∀m∈M,oh [.str m.n]=some (.bl true))
include hT hM hm
theorem M7(p:Tk->Bool)(hp:∀t∈T,oh [t.n]=some (.bl (p t))):(T.all p=false->pE [LD T,MD M]=some false)/\(T.all p=true->∀l:List Str,T.map Tk.n=l.map D.str->pE [LD T,MD M]=some (decide (l++M.map Mk.n).Nodup)):=by
 let ρ0:List Sl:=[.im (LD T),.im (MD M),.un];let ds:List L4.D:=T.map Tk.n++M.map λm=>.str m.n;let ρ:List Sl:=[.im (LD T),.im (MD M),.im (.lst ds)];have e1:nZ 1 [] (iL (cV 0)) (gN 0) oQ (c1 (n9 n8 "name") (cV 0)) ρ0=some (T.map Tk.n,ρ0):=vS tkD Tk.n T rfl (by omega) λt _=>⟨_,_,rfl,oI rfl (sE t),rfl⟩;have e2:nZ 1 [] (iL (cV 1)) (gN 0) oQ (c1 (n9 n8 "name") (cV 0)) ρ0=some (M.map λm=>D.str m.n,ρ0):=vS mkD (λm=>D.str m.n) M rfl (by omega) λt _=>⟨_,_,rfl,oI rfl (Dg t),rfl⟩;have e3:=o9 (i:=2) (p7 (qT (p7 e1) (p7 e2) (by rw[ai,ai];omega)));have hds:ds.length<=1000:=by show (T.map Tk.n++M.map λm=>D.str m.n).length<=1000;rw[aB,ai,ai];omega
 have tot:∀d∈ds,oh [d]=some (.bl (isT (oh [d]))):=λd hd=>by
  rcases aZ.mp hd with h|h
  ·obtain⟨t,ht,rfl⟩:=aI.mp h;rw[hp t ht];rfl
  ·obtain⟨m,h',rfl⟩:=aI.mp h;rw[hm m h'];rfl
 have ea:c1 ql (cL (nZ 1 [] (iL (cV 2)) (gN 0) oQ (nN oh (a1 (cV 0))))) ρ=some (.bl (ds.all λd=>isT (oh [d])),ρ):=
  rH id (λd=>isT (oh [d])) ds (by rw[iX];rfl) hds λd hd=>⟨[.im d],[.im d],rfl,n5 rfl (tot d hd),rfl⟩
 have es:(ds.all λd=>isT (oh [d]))=T.all p:=by show ((T.map Tk.n++M.map λm=>D.str m.n).all λd=>isT (oh [d]))=_;rw[List.all_append,fR,fR,pz (l:=M) (λm h=>by show isT (oh [.str m.n])=true;rw[hm m h];rfl),kN];exact Be λt ht=>by show isT (oh [t.n])=p t;rw[hp t ht];rfl
 rw[es]at ea;constructor
 ·intro h;rw[h]at ea;refine vR (ρ:=ρ) rfl ?_;unfold qo;refine(nJ (ρ':=ρ) (qP e3)).trans ?_;exact xc (uw ea)
 ·intro h l el;rw[h]at ea;have ed:ds=(l++M.map Mk.n).map D.str:=by show T.map Tk.n++(M.map λm=>D.str m.n)=_;rw[el,aY,bL];rfl
  have eu:nN oj (a1 (cV 2)) ρ=some (.bl (decide (l++M.map Mk.n).Nodup),ρ):=by refine n5 (ds:=[.lst ds]) rfl ?_;rw[ed]at hds ⊢;rw[ai]at hds;exact yE hds
  cases hn:decide (l++M.map Mk.n).Nodup with
  |true=>rw[hn]at eu;refine Bd (ρ:=ρ) rfl ?_;unfold qo;refine(nJ (ρ':=ρ) (qP e3)).trans ?_;rw[nJ (oY ea)];exact oY eu
  |false=>rw[hn]at eu;refine vR (ρ:=ρ) rfl ?_;unfold qo;refine(nJ (ρ':=ρ) (qP e3)).trans ?_;rw[nJ (oY ea)];exact uw eu
end
def nS:L4.D->Str
 |.str x=>x
 |_=>""
def Tk.m(t:Tk):Str:=nS t.n
def isIn(d:L4.D)(l:List Str):Bool:=match d with
 |.str x=>decide (x∈l)
 |_=>false
def sOk:L4.D->Bool
 |.str _=>true
 |.non=>true
 |.int _=>true
 |_=>false
def Jf:L4.D->Bool
 |.non=>true
 |_=>false
variable{d:L4.D}
theorem BZ(h:sOk d=true)(l:List Str):oG [d,.lst (l.map D.str)]=some (.bl (isIn d l)):=by
 cases d with
 |str x=>refine p8 (ρ:=[.im (.str x),.im (.lst (l.map D.str))]) rfl ?_;refine qv ((qH rfl).trans (om rfl rfl ?_));rw[yf];rfl
 |non=>rfl
 |int i=>rfl
 |_=>cases h
def rmN(T:List Tk):List Str:=(T.filter λt=>decide (t.k=.room)).map Tk.m
def hdN(T:List Tk):List Str:=(T.filter λt=>t.k.hd).map Tk.m
def stB(T:List Tk)(t:Tk):Bool:=match t.k with
 |.room=>Jf t.s
 |.you=>isIn t.s (rmN T)
 |_=>isIn t.s (hdN T)
variable{T:List Tk}
theorem Dh(p:Tk->Bool)(hn:∀t∈T,t.n=.str t.m):(T.filter p).map Tk.n=((T.filter p).map Tk.m).map D.str:=by rw[bL];exact jJ λt ht=>hn t (bz.mp ht).1
variable{t:Tk}
section
variable{T:List Tk}(hl:T.length<=900)(hn:∀t∈T,t.n=.str t.m)
include hl hn
theorem Bf{i:Nat}(hi:cV i ρ=some (LD T,ρ)):nZ 1 [] (iL (cV i)) (gN 0) (cT (c2 (dEq false) (c1 (n9 oV "kind") (cV 0)) (cC (.str "room")))) (c1 (n9 n8 "name") (cV 0)) ρ=some ((rmN T).map D.str,ρ):=by
 have hs:iL (cV i) ρ=some (T.map tkD,ρ):=by unfold iL;rw[hi]
 refine(ux (k:=1) (cap:=[]) (g:=gN 0) (ft:=cT (c2 (dEq false) (c1 (n9 oV "kind") (cV 0)) (cC (.str "room")))) (fe:=c1 (n9 n8 "name") (cV 0)) tkD Tk.n (λt=>decide (t.k=.room)) T hs (by omega) λt _=>
  ⟨[.im (tkD t)],[.im (tkD t)],rfl,wc (om (oI rfl (wu t)) rfl (zx t.k .room)),λ_=>⟨_,oI rfl (sE t),rfl⟩,λ_=>rfl⟩).trans ?_
 rw[Dh _ hn];rfl
theorem B2{i:Nat}(hi:cV i ρ=some (LD T,ρ)):nZ 1 [] (iL (cV i)) (gN 0) (cT (qz qc "can_hold" (cV 0) ox)) (c1 (n9 n8 "name") (cV 0)) ρ=some ((hdN T).map D.str,ρ):=by
 have hs:iL (cV i) ρ=some (T.map tkD,ρ):=by unfold iL;rw[hi]
 refine(ux (k:=1) (cap:=[]) (g:=gN 0) (ft:=cT (qz qc "can_hold" (cV 0) ox)) (fe:=c1 (n9 n8 "name") (cV 0)) tkD Tk.n (λt=>t.k.hd) T hs (by omega) λt _=>
  ⟨[.im (tkD t)],[.im (tkD t)],rfl,wc (uB (xs:=[t.n,t.w,.str t.k.s,t.s]) (ys:=[]) rfl rfl rfl rfl (Jc t)),λ_=>⟨_,oI rfl (sE t),rfl⟩,λ_=>rfl⟩).trans ?_
 rw[Dh _ hn];rfl
theorem Bh(hs:sOk t.s=true):vc [LD T,tkD t]=some (.bl (stB T t)):=by
 let ρ:List Sl:=[.im (LD T),.im (tkD t)];refine p8 (ρ:=ρ) rfl ?_;unfold va;have k1:cT (c2 (dEq false) (c1 (n9 oV "kind") (cV 1)) (cC (.str "room"))) ρ=some (decide (t.k=.room),ρ):=wc (om (ρ1:=ρ) (ρ2:=ρ) (oI rfl (wu t)) rfl (zx t.k .room));have k2:cT (c2 (dEq false) (c1 (n9 oV "kind") (cV 1)) (cC (.str "you"))) ρ=some (decide (t.k=.you),ρ):=wc (om (ρ1:=ρ) (ρ2:=ρ) (oI rfl (wu t)) rfl (zx t.k .you));by_cases h1:t.k=.room
 ·rw[bc h1]at k1;refine rL ((sZ k1).trans (qv (om (ρ1:=ρ) (x:=t.s) (y:=.non) (oI rfl (xA t)) rfl ?_)));unfold stB;rw[h1];generalize t.s=d at hs ⊢;cases d with
  |str x=>rfl
  |non=>rfl
  |int i=>rfl
  |_=>cases hs
 ·rw[bh h1]at k1;refine(nJ (ρ':=ρ) ((rE k1).trans rfl)).trans ?_;by_cases h2:t.k=.you
  ·rw[bc h2]at k2;refine rL ((sZ k2).trans (qv ((n5 (nU (oI rfl (xA t)) (nU (p7 (Bf hl hn rfl)) rfl)) (BZ hs (rmN T))).trans ?_)));unfold stB;rw[h2]
  ·rw[bh h2]at k2;refine(nJ (ρ':=ρ) ((rE k2).trans rfl)).trans ?_;refine qv ((n5 (nU (oI rfl (xA t)) (nU (p7 (B2 hl hn rfl)) rfl)) (BZ hs (hdN T))).trans ?_);unfold stB;generalize t.k=k at h1 h2 ⊢;cases k with
   |room=>exact ak rfl h1
   |you=>exact ak rfl h2
   |_=>rfl
end
def nK(T:List Tk):List Key:=T.map λt=>kS t.m
def stD(T:List Tk):L4.D:=.dic (nK T) (T.map Tk.s)
theorem Di(h:(T.map Tk.m).Nodup):(nK T).Nodup:=by have:=zi h;rw[bL]at this;exact this
theorem Dj(h:(T.map Tk.m).Nodup)(ht:t∈T):x6 (nK T) (T.map Tk.s) (kS t.m)=some t.s:=by refine A8 (Di h) ?_;unfold nK;rw[List.zip_map'];exact ba (f:=λt=>(kS t.m,t.s)) ht
variable{ds:List L4.D}{x:Str}
theorem yF{i:Nat}{fk fv:FE}{ks:List Key}(h1:fv ρ=some (d,ρ))(h2:ρ[i]?=some (.dk ks ds))(h3:fk ρ=some (.str x,ρ))(hn:kS x∉ks)(hl:ks.length<1000)(he:ds.length=ks.length):
  qU i fk fv ρ=some (.nx (ρ.set i (.dk (ks++[kS x]) (ds++[d])))):=by
 have hk:x8 ks (kS x)=false:=by unfold x8;rw[fH];intro z;obtain⟨y,hy,ey⟩:=bS.mp z;exact hn (by rw[<-bG ey];exact hy)
 unfold qU;rw[h1];simp only[h2,h3];rw[show xl (.str x)=some (kS x) from rfl];simp only;rw[ag hl,ag he,hk];rfl
section
variable{α:Type}{g:FG}{i:Nat}{fk fv:FE}
theorem wx(dd:α->L4.D)(kf:α->Str)(vf:α->L4.D)(st:List Key->List L4.D->Sl->List Sl)(A:List α)
  (hs:∀a∈A,∀(ks:List Key) (ds:List L4.D) (s:Sl),∃ρ1,g (dd a) (st ks ds s)=some ρ1/\fv ρ1=some (vf a,ρ1)/\ρ1[i]?=some (.dk ks ds)/\fk ρ1=some (.str (kf a),ρ1)/\∀ks' ds',∃s',ρ1.set i (.dk ks' ds')=st ks' ds' s'):
  ∀(l:List α) (ks:List Key) (ds:List L4.D) (s:Sl),(∀a∈l,a∈A)->(ks++l.map λa=>kS (kf a)).Nodup->ks.length+l.length<=1000->ds.length=ks.length->
   ∃s',forL g (qU i fk fv) (l.map dd) (st ks ds s)=some (.nx (st (ks++l.map λa=>kS (kf a)) (ds++l.map vf) s'))
 |[],ks,ds,s,_,_,_,_=>⟨s,by rw[eR,eR,eR,bK,bK];rfl⟩
 |a::l,ks,ds,s,hA,nd,hl,he=>by
  obtain⟨ρ1,h1,h2,h3,h4,h5⟩:=hs a (hA a aH) ks ds s;obtain⟨s1,h6⟩:=h5 (ks++[kS (kf a)]) (ds++[vf a]);rw[aE]at hl;have nd':((ks++[kS (kf a)])++l.map λa=>kS (kf a)).Nodup:=by rw[bJ];exact nd
  have hn:kS (kf a)∉ks:=λz=>by rw[bO]at nd;exact nd.2.2 _ z _ (by rw[aN];exact aH) rfl
  obtain⟨s',h7⟩:=wx dd kf vf st A hs l (ks++[kS (kf a)]) (ds++[vf a]) s1 (λb hb=>hA b (aM _ hb)) nd' (by rw[aB,bY];omega) (by rw[aB,aB,he,bY,bY]);refine⟨s',?_⟩;rw[aN];unfold forL;rw[h1];simp only[yF h2 h3 h4 hn (by omega) he,h6];rw[h7,aN,aN,bJ,bJ];rfl
end
def cB:FS:=nP (sIf (cT (c2 xk (cV 2) (cC D.non))) (oZ (cC (.bl true))) pG) (oJ 2 (c2 wG (cV 0) (cV 2)))
section
variable{T:List Tk}(hl:T.length<=900)(nd:(T.map Tk.m).Nodup)
include hl nd
theorem zz(ht:t∈T):(∀ρ,forL (gN 3) cB (uW 0 T.length) [.im (stD T),.im (.str t.m),.im t.s,.un]=some (.rt (.bl true) ρ)->oN [stD T,.str t.m]=some (.bl true))/\
  (∀(d:L4.D) (b:Bool) (s:Sl),xk d .non=some (.bl b)->forL (gN 3) cB (uW 0 T.length) [.im (stD T),.im (.str t.m),.im t.s,.un]=some (.nx [.im (stD T),.im (.str t.m),.im d,s])->oN [stD T,.str t.m]=some (.bl b)):=by
 have e0:oJ 2 (c2 wG (cV 0) (cV 1)) [.im (stD T),.im (.str t.m),.un,.un]=some (.nx [.im (stD T),.im (.str t.m),.im t.s,.un]):=(o9 (om rfl rfl (Dj nd ht))).trans rfl;have e1:iR1 (c1 p6 (cV 0)) [.im (stD T),.im (.str t.m),.im t.s,.un]=some (uW 0 T.length,[.im (stD T),.im (.str t.m),.im t.s,.un]):=by unfold iR1;rw[show c1 p6 (cV 0) [.im (stD T),.im (.str t.m),.im t.s,.un]=some (.int T.length,[.im (stD T),.im (.str t.m),.im t.s,.un]) from oI rfl (by show some (D.int _)=_;unfold nK;rw[ai])];simp only;rw[ag (by omega),ip]
 constructor
 ·intro ρ q;refine p8 (ρ:=ρ) rfl ?_;exact(nJ e0).trans (rL ((sr e1).trans q))
 ·intro d b s hd q;refine p8 (ρ:=[.im (stD T),.im (.str t.m),.im d,s]) rfl ?_;exact(nJ e0).trans ((nJ ((sr e1).trans q)).trans (qv (om rfl rfl hd)))
theorem OE{a:Sl}{u:Tk}{s:Sl}(hu:u∈T):cB [.im (stD T),a,.im (.str u.m),s]=some (.nx [.im (stD T),a,.im u.s,s]):=
 (nJ (ρ':=[.im (stD T),a,.im (.str u.m),s]) rfl).trans ((o9 (om rfl rfl (Dj nd hu))).trans rfl)
theorem Gq(G:Tk->Prop)(r:Str->Nat)(h:∀u∈T,G u->r u.m<T.length/\(u.s=.non\/∃v∈T,G v/\u.s=.str v.m/\r v.m<r u.m))(ht:t∈T)(hg:G t):oN [stD T,.str t.m]=some (.bl true):=by
 have loop:∀(m:Nat) (l:List L4.D),l.length=m->∀(u:Tk) (s:Sl),u∈T->G u->r u.m<=m->(∃ρ,forL (gN 3) cB l [.im (stD T),.im (.str t.m),.im u.s,s]=some (.rt (.bl true) ρ))\/(∃s',forL (gN 3) cB l [.im (stD T),.im (.str t.m),.im u.s,s]=some (.nx [.im (stD T),.im (.str t.m),.im .non,s'])):=by
  intro m
  induction m with
  |zero=>
   intro l hm u s hu hg hr;cases l with
   |cons d l=>cases hm
   |nil=>
    rcases(h u hu hg).2 with e|⟨v,hv,gv,e,lt⟩
    ·rw[e];exact .inr ⟨s,rfl⟩
    ·omega
  |succ m ih=>
   intro l hm u s hu hg hr;cases l with
   |nil=>cases hm
   |cons d l=>
    rcases(h u hu hg).2 with e|⟨v,hv,gv,e,lt⟩
    ·rw[e];refine .inl ⟨[.im (stD T),.im (.str t.m),.im .non,.im d],?_⟩;unfold forL;rw[show gN 3 d [.im (stD T),.im (.str t.m),.im .non,s]=some [.im (stD T),.im (.str t.m),.im .non,.im d] from rfl];rfl
    ·rw[e];unfold forL;rw[show gN 3 d [.im (stD T),.im (.str t.m),.im (.str v.m),s]=some [.im (stD T),.im (.str t.m),.im (.str v.m),.im d] from rfl];simp only[OE hl nd hv];exact ih l (by simpa using hm) v (.im d) hv gv (by omega)
 rcases loop T.length (uW 0 T.length) (by unfold uW;simp) t .un ht hg (by have:=(h t ht hg).1;omega)with ⟨ρ,q⟩|⟨s',q⟩
 ·exact(zz hl nd ht).1 ρ q
 ·exact(zz hl nd ht).2 .non true s' rfl q
end
section
variable{T:List Tk}(hl:T.length<=900)(hn:∀t∈T,t.n=.str t.m)(hs:∀t∈T,sOk t.s=true)
include hl hn hs
theorem M8(nd:(T.map Tk.m).Nodup)(h:T.all (stB T)=true)(c:Tk->Bool)(hc:∀t∈T,oN [stD T,.str t.m]=some (.bl (c t))):qe [LD T]=some (T.all c):=by
 obtain⟨s',e1⟩:=wx (g:=gN 2) (i:=1) (fk:=c1 (n9 n8 "name") (cV 2)) (fv:=c1 (n9 qj "start") (cV 2)) tkD Tk.m Tk.s (λks ds s=>[.im (LD T),.dk ks ds,s]) T
  (λt ht ks ds s=>⟨[.im (LD T),.dk ks ds,.im (tkD t)],rfl,oI rfl (xA t),rfl,oI rfl ((sE t).trans (by rw[hn t ht])),λks' ds'=>⟨_,rfl⟩⟩) T [] [] .un (λ_ h=>h) (by rw[cu];exact Di nd) (by simp;omega) rfl
 have src:iD (cFz 1) [.im (LD T),.dk ([]++T.map λa=>kS a.m) ([]++T.map Tk.s),s']=some ((T.map λt=>D.str t.m),[.im (LD T),.im (stD T),s']):=by rw[cu,cu];unfold iD;rw[show cFz 1 [.im (LD T),.dk (T.map λa=>kS a.m) (T.map Tk.s),s']=some (stD T,[.im (LD T),.im (stD T),s']) from rfl];show (if (nK T).length=(T.map Tk.s).length then some ((nK T).map Ly,_)else none)=_;unfold nK;rw[ag (by rw[ai,ai]),bL];rfl
 have ec:c1 ql (cL (nZ 1 [1] (iD (cFz 1)) (gN 0) oQ (nN oN (aCons (cV 1) (a1 (cV 0)))))) [.im (LD T),.dk ([]++T.map λa=>kS a.m) ([]++T.map Tk.s),s']=some (.bl (T.all c),[.im (LD T),.im (stD T),s']):=
  rH (λt:Tk=>D.str t.m) c T src (by omega) λt ht=>⟨[.im (.str t.m),.im (stD T)],[.im (.str t.m),.im (stD T)],rfl,n5 rfl (hc t ht),rfl⟩
 have hd:∀{o:Out},sXp nI (aCons (c1 ql (cL (nZ 1 [1] (iD (cFz 1)) (gN 0) oQ (nN oN (aCons (cV 1) (a1 (cV 0))))))) (a1 (cS "a thing starts within itself"))) [.im (LD T),.dk ([]++T.map λa=>kS a.m) ([]++T.map Tk.s),s']=some o->qI [.im (LD T),.un,.un]=some o:=λ{o} q=>by unfold qI;refine(nJ (oY (ρ1:=[.im (LD T),.un,.un]) ((rH tkD (stB T) T rfl (by omega) λt ht=>⟨[.im (tkD t),.im (LD T)],[.im (tkD t),.im (LD T)],rfl,n5 rfl (Bh hl hn (hs t ht)),rfl⟩).trans (by rw[h])))).trans ?_;refine(nJ (ρ':=[.im (LD T),.dk [] [],.un]) rfl).trans ?_;exact(nJ (qP ((sr rfl).trans e1))).trans q
 cases hb:T.all c with
 |true=>rw[hb]at ec;exact Bd rfl (hd (oY ec))
 |false=>rw[hb]at ec;exact vR rfl (hd (uw ec))
end
def taB(h:Tk->Tk->Bool)(P:List Tk)(t:Tk):Bool:=!(P.filter λu=>!decide (u.m=t.m)).any λu=>h u t
section
variable{T:List Tk}(hl:T.length<=900)
include hl
theorem Jg{P:List Tk}(hP:P.length<=900)(hn:∀t∈P,t.n=.str t.m)(h:Tk->Tk->Bool)(ht:t∈P)(hh:∀u∈P,qC [u.w,t.w]=some (.bl (h u t))):pU [LD P,tkD t]=some (.bl (taB h P t)):=by
 let O:=P.filter λu=>!decide (u.m=t.m);let ρ:List Sl:=[.im (LD P),.im (tkD t),.im (LD O)];have hO:O.length<=900:=bH (fw _ _) hP;refine p8 (ρ:=ρ) rfl ?_;unfold rl;refine(nJ (ρ':=ρ) ((o9 (p7 (ux tkD tkD (λu=>!decide (u.m=t.m)) P (ρ1:=[.im (LD P),.im (tkD t),.un]) rfl (by omega) λu hu=>⟨[.im (tkD u),.im (tkD t)],[.im (tkD u),.im (tkD t)],rfl,wc (om (x:=.str u.m) (y:=.str t.m) (oI rfl ((sE u).trans (by rw[hn u hu]))) (oI rfl ((sE t).trans (by rw[hn t ht]))) (IK true u.m t.m)),λ_=>⟨_,rfl,rfl⟩,λ_=>rfl⟩))).trans rfl)).trans ?_;have e:c1 x9 (cL (nZ 1 [1] (iL (cV 2)) (gN 0) oQ (nN qC (aCons (c1 (n9 pj "words") (cV 0)) (aCons (c1 (n9 pj "words") (cV 1)) ox))))) ρ=some (.bl (O.any λu=>h u t),ρ):=
  Dd tkD (λu=>h u t) O rfl (by omega) λu hu=>⟨[.im (tkD u),.im (tkD t)],[.im (tkD u),.im (tkD t)],rfl,n5 (nU (oI rfl (xy u)) (nU (oI rfl (xy t)) rfl)) (hh u (bz.mp hu).1),rfl⟩
 refine qv ?_;unfold vY;rw[e];rfl
theorem M9(p:Tk->Bool)(hp:∀t∈T,oE [t.w]=some (.bl (p t))):(T.all p=false->oq [LD T]=some false)/\
  (T.all p=true->(∀t∈T,t.n=.str t.m)->∀h:Tk->Tk->Bool,(∀t∈plN T,∀u∈plN T,qC [u.w,t.w]=some (.bl (h u t)))->oq [LD T]=some ((plN T).all (taB h (plN T)))):=by
 let ρ0:List Sl:=[.im (LD T),.un];have ea:c1 ql (cL (nZ 1 [] (iL (cV 0)) (gN 0) oQ (nN oE (a1 (c1 (n9 pj "words") (cV 0)))))) ρ0=some (.bl (T.all p),ρ0):=rH tkD p T rfl (by omega) λt ht=>⟨[.im (tkD t)],[.im (tkD t)],rfl,n5 (nU (oI rfl (xy t)) rfl) (hp t ht),rfl⟩;constructor
 ·intro h;rw[h]at ea;refine vR (ρ:=ρ0) rfl ?_;unfold oH;exact xc (uw ea)
 ·intro h hn hh hq;rw[h]at ea;let P:=plN T;have hP:P.length<=900:=bH (fw _ _) hl;have hnP:∀t∈P,t.n=.str t.m:=λt ht=>hn t (bz.mp ht).1;let ρ:List Sl:=[.im (LD T),.im (LD P)];have eb:c1 ql (cL (nZ 1 [1] (iL (cV 1)) (gN 0) oQ (nN pU (aCons (cV 1) (a1 (cV 0)))))) ρ=some (.bl (P.all (taB hh P)),ρ):=rH tkD (taB hh P) P rfl (by omega) λt ht=>⟨[.im (tkD t),.im (LD P)],[.im (tkD t),.im (LD P)],rfl,n5 rfl (Jg hl hP hnP hh ht λu hu=>hq t ht u hu),rfl⟩;have hd:∀{o:Out},sXp nI (aCons (c1 ql (cL (nZ 1 [1] (iL (cV 1)) (gN 0) oQ (nN pU (aCons (cV 1) (a1 (cV 0))))))) (a1 (cS "one thing has all words of another"))) ρ=some o->oH ρ0=some o:=λ{o} q=>by unfold oH;refine(nJ (oY ea)).trans ?_;exact(nJ (ρ':=ρ) (qP ((o9 (p7 (n5 rfl (sF T (by omega))))).trans rfl))).trans q
  cases hb:P.all (taB hh P)with
  |true=>rw[hb]at eb;exact Bd rfl (hd (oY eb))
  |false=>rw[hb]at eb;exact vR rfl (hd (uw eb))
end
def vb(n f:Str)(j:L4.D):L4.D:=.obj 2 ["name", "others", "form", "joining"] [.str n,.tup [],.str f,j]
def v9:List L4.D:=[vb "take" "one" .non,vb "drop" "one" .non,vb "open" "one" .non,vb "shut" "one" .non,vb "light" "one" .non,vb "douse" "one" .non,vb "put" "two" (.str "in"),vb "go" "way" .non,vb "wait" "alone" .non]
theorem JQ:qJ []=some v9:=by kernel_rfl
def gate:L4.D:=.obj 1 ["name", "start", "most"] [.str "gate", .int 0,.int 1]
abbrev GG:L4.D:=.lst [gate]
abbrev pA(d W:L4.D)(vs:List L4.D):List L4.D:=[d,GG,.lst [],W,.lst vs,.lst v9]
structure Rt(T:List Tk):Prop where
 l:T.length<=20
 s:∀t∈T,t.n=.str t.m
 c1:qd [LD T]=some true
 c3:pE [LD T,GG]=some true
 c4:qe [LD T]=some true
 c5:oq [LD T]=some true
 mn:∃l,oF [LD T,GG]=some l/\.str "gate" ∈ l/\∀d∈l,∃x:Str,d=.str x
variable{b:Bool}
section
variable{T:List Tk}(r:Rt T){W:L4.D}{vs:List L4.D}
include r
theorem xB{o:Out}{l:List L4.D}(hm:oF [LD T,GG]=some l)(h:(nP (sXp px (aCons (cV 3) (aCons (cV 6) (a1 (cL (o6 oF (aCons (cV 0) (a1 (cV 1)))))))))
 (nP (sXp pF (a1 (cV 4)))
 (sXp pb (aCons (cV 0) (aCons (cV 3) (a1 (cL (o4 (cV 4) (cV 5))))))))) [.im (LD T),.im GG,.im (.lst []),.im W,.im (.lst vs),.im (.lst v9),.im (.lst ((rmN T).map D.str))]=some o):q8 (stE 7 (pA (LD T) W vs))=some o:=by
 have l:=r.l;let rr:L4.D:=.lst ((rmN T).map D.str);let ρ0:List Sl:=stE 7 (pA (LD T) W vs);let ρ:List Sl:=[.im (LD T),.im GG,.im (.lst []),.im W,.im (.lst vs),.im (.lst v9),.im rr];unfold q8;rw[nJ (wt (ds:=[LD T]) (ρ1:=ρ0) rfl r.c1),nJ (wt (ds:=[GG]) (ρ1:=ρ0) rfl (by kernel_rfl)),nJ (wt (ds:=[LD T,GG]) (ρ1:=ρ0) rfl r.c3),nJ (wt (ds:=[LD T]) (ρ1:=ρ0) rfl r.c4),nJ (wt (ds:=[LD T]) (ρ1:=ρ0) rfl r.c5)];refine(nJ (ρ':=ρ) (qP ((o9 (p7 (Bf (T:=T) (by omega) r.s rfl))).trans rfl))).trans ?_;exact(nJ (wt (ds:=[.lst [],rr]) (ρ1:=ρ) rfl (by kernel_rfl))).trans h
theorem Dk{l:List L4.D}(hm:oF [LD T,GG]=some l):(aCons (cV 3) (aCons (cV 6) (a1 (cL (o6 oF (aCons (cV 0) (a1 (cV 1)))))))) [.im (LD T),.im GG,.im (.lst []),.im W,.im (.lst vs),.im (.lst v9),.im (.lst ((rmN T).map D.str))]=some ([W,.lst ((rmN T).map D.str),.lst l],[.im (LD T),.im GG,.im (.lst []),.im W,.im (.lst vs),.im (.lst v9),.im (.lst ((rmN T).map D.str))]):=
 nU rfl (nU rfl (nU (p7 (n5 (g:=oF) (ds:=[LD T,GG]) rfl hm)) rfl))
theorem Jh{l:List L4.D}(hm:oF [LD T,GG]=some l)(hw:px [W,.lst ((rmN T).map D.str),.lst l]=some false):oR (pA (LD T) W vs)=some false:=
 vR rfl (xB r hm (xc (Jb (Dk r hm) hw)))
theorem Gr{l:List L4.D}(hm:oF [LD T,GG]=some l)(hw:px [W,.lst ((rmN T).map D.str),.lst l]=some true)(hv:pF [.lst vs]=some false):oR (pA (LD T) W vs)=some false:=
 vR rfl (xB r hm ((nJ (wt (Dk r hm) hw)).trans (xc (Jb (ds:=[.lst vs]) rfl hv))))
theorem Gs{l:List L4.D}(hm:oF [LD T,GG]=some l)(hw:px [W,.lst ((rmN T).map D.str),.lst l]=some true)(hv:pF [.lst vs]=some true)(hl:vs.length<=10)(hb:pb [LD T,W,.lst (vs++v9)]=some b):oR (pA (LD T) W vs)=some b:=by
 let ρ:List Sl:=[.im (LD T),.im GG,.im (.lst []),.im W,.im (.lst vs),.im (.lst v9),.im (.lst ((rmN T).map D.str))];have ea:(aCons (cV 0) (aCons (cV 3) (a1 (cL (o4 (cV 4) (cV 5)))))) ρ=some ([LD T,W,.lst (vs++v9)],ρ):=nU rfl (nU rfl (nU (p7 (qT (xs:=vs) (ys:=v9) (ρ1:=ρ) rfl rfl (by show vs.length+9<=1000;omega))) rfl));cases b with
 |true=>exact Bd rfl (xB r hm ((nJ (wt (Dk r hm) hw)).trans ((nJ (wt (ds:=[.lst vs]) (ρ1:=ρ) rfl hv)).trans (wt ea hb))))
 |false=>exact vR rfl (xB r hm ((nJ (wt (Dk r hm) hw)).trans ((nJ (wt (ds:=[.lst vs]) (ρ1:=ρ) rfl hv)).trans (Jb ea hb))))
end
variable{vs:List L4.D}
theorem Pi{W:L4.D}(h:oR (pA d W vs)=some false):pP [d,GG,.lst [],W,.lst vs,.lst []]=some none:=by
 unfold pP fnXI;rw[ag (show [d,GG,.lst [],W,.lst vs,.lst []].length=6 from rfl)];have e:pO (stI 14 8 [d,GG,.lst [],W,.lst vs,.lst []])=some (.bk (stI 14 8 [d,GG,.lst [],W,.lst vs,.lst []])):=by unfold pO;exact xc (Jb (ds:=pA d W vs) (nU rfl (nU rfl (nU rfl (nU rfl (nU rfl (nU (p7 (n5 (ds:=[]) rfl JQ)) rfl)))))) h)
 rw[e]
theorem Gu{W:L4.D}:(aCons (cV 0) (aCons (cL (n6 (a1 (nX 1 (λds=>rg (ds++[])) (aCons (cS "gate") (aCons (cC (.int 0)) (a1 (cC (.int 1))))))))) (aCons (cL (n6 ox)) (aCons (cV 1) (aCons (cV 2) (a1 (cL (n6 ox)))))))) [.im d,.im W,.im (.lst vs)]=some ([d,GG,.lst [],W,.lst vs,.lst []],[.im d,.im W,.im (.lst vs)]):=by kernel_rfl
theorem refused{W:L4.D}(h:oR (pA d W vs)=some false):oe [d,W,.lst vs]=some (.bl true):=by refine p8 (ρ:=[.im d,.im W,.im (.lst vs)]) rfl ?_;unfold qM;refine rL ?_;unfold sTry;rw[show (aCons (cV 0) (aCons (cL (n6 (a1 (nX 1 (λds=>rg (ds++[])) (aCons (cS "gate") (aCons (cC (.int 0)) (a1 (cC (.int 1))))))))) (aCons (cL (n6 ox)) (aCons (cV 1) (aCons (cV 2) (a1 (cL (n6 ox)))))))) (stE 3 [d,W,.lst vs])=_ from Gu];simp only[Pi h];rfl
theorem Na{W:L4.D}{q:List Str×List L4.D}(h:pP [d,GG,.lst [],W,.lst vs,.lst []]=some (some q)):oe [d,W,.lst vs]=some (.bl false):=by refine p8 (ρ:=[.im d,.im W,.im (.lst vs)]) rfl ?_;unfold qM;refine(nJ (ρ':=[.im d,.im W,.im (.lst vs)]) ?_).trans rfl;unfold sTry;rw[show (aCons (cV 0) (aCons (cL (n6 (a1 (nX 1 (λds=>rg (ds++[])) (aCons (cS "gate") (aCons (cC (.int 0)) (a1 (cC (.int 1))))))))) (aCons (cL (n6 ox)) (aCons (cV 1) (aCons (cV 2) (a1 (cL (n6 ox)))))))) (stE 3 [d,W,.lst vs])=_ from Gu];simp only[h]
structure Th where
 n:Str
 w:List Str
 k:Kd
 s:Option Str
def oS:Option Str->L4.D
 |none=>.non
 |some x=>.str x
def Th.tk(t:Th):Tk:=⟨.str t.n,.tup (t.w.map D.str),t.k,oS t.s⟩
def thD(t:Th):L4.D:=tkD t.tk
abbrev TD(T:List Th):L4.D:=.lst (T.map thD)
def Th.nw(t:Th):Str×List Str:=(t.n,t.w)
theorem OF(T:List Th):TD T=LD (T.map Th.tk):=by show D.lst _=D.lst _;rw[bL];rfl
def rmL:List Str:=["hall", "x", "cellar", "loft", "porch"]
def plL:List (Str×List Str):=[("chest", ["old", "chest"]),("lamp", ["lamp", "red"]),("stone", ["red", "stone"]),("key", ["key"])]
def Bi(l:List Th)(r:Th):Prop:=(r.k=.room/\r.s=none)\/(r.k=.you/\∃u∈l,r.s=some u.n/\u.k=.room)\/(r.k.pl=true/\∃u∈l,r.s=some u.n/\u.k.hd=true)
inductive Ord:List Th->Prop
 |nil:Ord []
 |snoc {l:List Th} {r:Th} (h:Ord l) (h':Bi l r):Ord (l++[r])
theorem Bi.mono{l l':List Th}{r:Th}(h:Bi l r)(hs:∀u∈l,u∈l'):Bi l' r:=by
 rcases h with h|⟨h1,u,h2,h3⟩|⟨h1,u,h2,h3⟩
 ·exact .inl h
 ·exact .inr (.inl ⟨h1,u,hs u h2,h3⟩)
 ·exact .inr (.inr ⟨h1,u,hs u h2,h3⟩)
theorem Ord.all{l:List Th}(h:Ord l):∀r∈l,Bi l r:=by
 induction h with
 |nil=>exact λr hr=>(dW hr).elim
 |snoc h h' ih=>
  intro r hr;rcases aZ.mp hr with hr|hr
  ·exact(ih r hr).mono λu hu=>aT _ hu
  ·rw[bg]at hr;subst hr;exact h'.mono λu hu=>aT _ hu
theorem Bi.start{l:List Th}{r:Th}(h:Bi l r){p:Str}(hp:r.s=some p):∃u∈l,u.n=p:=by
 rcases h with ⟨_,h⟩|⟨_,u,h2,h3,_⟩|⟨_,u,h2,h3,_⟩
 ·rw[h]at hp;cases hp
 ·rw[h3]at hp;cases hp;exact⟨u,h2,rfl⟩
 ·rw[h3]at hp;cases hp;exact⟨u,h2,rfl⟩
theorem Ord.rank{l:List Th}(h:Ord l):(l.map Th.n).Nodup->∃rk:Str->Nat,∀t∈l,rk t.n<l.length/\∀p,t.s=some p->rk p<rk t.n/\∃u∈l,u.n=p:=by
 induction h with
 |nil=>exact λ_=>⟨λ_=>0,λt ht=>(dW ht).elim⟩
 |@snoc l r h h' ih=>
  intro nd;rw[aY,bO]at nd;obtain⟨rk,hk⟩:=ih nd.1;have ne:∀u∈l,u.n≠r.n:=λu hu z=>nd.2.2 _ (ba hu) _ (by simp) z;refine⟨λx=>if x=r.n then l.length else rk x,λt ht=>?_⟩;rw[aB,bY];dsimp only;rcases aZ.mp ht with ht|ht
  ·obtain⟨h1,h2⟩:=hk t ht;rw[ah (ne t ht)];refine⟨by omega,λp hp=>?_⟩;obtain⟨h3,u,hu,rfl⟩:=h2 p hp;rw[ah (ne u hu)];exact⟨h3,u,aT _ hu,rfl⟩
  ·rw[bg]at ht;subst ht;rw[ag rfl];refine⟨by omega,λp hp=>?_⟩;obtain⟨u,hu,rfl⟩:=h'.start hp;rw[ah (ne u hu)];exact⟨(hk u hu).1,u,aT _ hu,rfl⟩
theorem Ai(k:Nat)(h:k<=ds.length):cutD ds none (some (k:Int))=ds.take k:=by unfold cutD;rw[HT.Av,HT.Cg,ko h,List.drop_zero,Nat.sub_zero]
theorem Gv(k:Nat)(h:k<=ds.length):cutD ds (some (k:Int)) none=ds.drop k:=by unfold cutD;rw[HT.Av,HT.Cg,ko h,f6 (by rw[cp];omega)]
theorem OG(n:Nat):uW 0 n=(aO n).map λk:Nat=>D.int (k:Nat):=by unfold uW;simp
theorem Nc{P:Kd->Prop}(h1:P .room)(h2:P .you)(h3:P .plain)(h4:P .fixed)(h5:P .box)(h6:P .lamp):∀k,P k:=λk=>by cases k<;>assumption
variable{ρ1:List Sl}
theorem OH{n:Nat}(h:e ρ=some (.int (n:Nat),ρ1))(hn:n<=100):iR1 e ρ=some ((aO n).map λk:Nat=>D.int (k:Nat),ρ1):=by unfold iR1;rw[h];dsimp only;rw[ag (by omega),ip,OG]
variable{ρ2:List Sl}
theorem Aj{lo hi:FO}{ρ3:List Sl}{l u:Option Int}(h1:e ρ=some (.lst ds,ρ1))(h2:lo ρ1=some (l,ρ2))(h3:hi ρ2=some (u,ρ3)):tm e lo hi ρ=some (cutD ds l u,ρ3):=by unfold tm;rw[h1];simp only[h2,h3]
theorem Gw{i:Int}(h:e ρ=some (.int i,ρ1)):oAt e ρ=some (some i,ρ1):=by unfold oAt;rw[h]
theorem ixs{i j:Nat}{L:List L4.D}(h:uX es)(h0:L≠[])(hl:L.length<=1000)(hi:pd ρ i=some es)(hj:pd ρ j=some L)(hb:cV j (ρ.map Sl.bor)=some (.lst L,ρ.map Sl.bor))(hne:∀es',pd (putAt ρ i es') j=some L):
  ∃d∈L,∃es',uX es'/\tT j (rZ oo i (a1 (sm (c1 p6 (cV j))))) ρ=some (d,putAt ρ i es'):=by
 have hp:0<L.length:=jI.mpr h0;obtain⟨r,es',h4,h2,h3,h1⟩:=Bc h (b:=L.length) (by omega) (by omega);obtain⟨m,rfl⟩:=cH h2;have hm:m<L.length:=by omega
 refine⟨L[m],dS hm,es',h1,?_⟩;have e1:sm (c1 p6 (cV j)) ρ=some (.int L.length,ρ):=xZ (oI hb rfl) rfl;have e2:rZ oo i (a1 (sm (c1 p6 (cV j)))) ρ=some (.int m,putAt ρ i es'):=z6 hi (nU e1 rfl) hi h4;unfold tT;rw[hj];simp only[e2,hne es'];rw[show atI L (m:Int)=some L[m] from sd (aS hm)]
variable{f:FE}
theorem Nd{i:Nat}{d0:List L4.D}{j:Int}(h0:pd ρ i=some d0)(h1:f ρ=some (.int j,ρ1))(h2:pd ρ1 i=some ds)(h3:atI ds j=some d):tT i f ρ=some (d,ρ1):=by unfold tT;rw[h0];simp only[h1,h2,h3]
def Bj(i:Nat):Str×List Str:=plL.getD i ("key", ["key"])
def plD(q:Str×List Str):L4.D:=.tup [.str q.1,.tup (q.2.map D.str)]
def kL:List Kd:=[.plain,.box,.lamp,.fixed]
def tB:FS:=(nP (yN (c2 dIx (cV 4) (c2 qk (c2 qA (cV 6) (cV 5)) (cC (.int 4)))) (gT (rP (gN 7) (rP (gN 8) y9)) 2))
 (nP (oJ 9 (c2 dIx (cL (n6 (aCons (cS "plain") (aCons (cS "box") (aCons (cS "lamp") (a1 (cS "fixed"))))))) (rZ oo 0 (a1 (cC (.int 4))))))
 (nP (qy (v8 2 (nX 0 (λds=>o7 (ds++[])) (aCons (cV 7) (aCons (cV 8) (aCons (cV 9) (a1 (tT 3 (rZ oo 0 (a1 (sm (c1 p6 (cV 3)))))))))))))
 (sIf (cT (c2 (dEq false) (cV 9) (cS "box"))) (qy (v8 3 (cV 7))) pG))))
theorem JR{i:Nat}(h:i<4):Bj i∈plL/\atI (plL.map plD) (i:Int)=some (plD (Bj i)):=by
 have e:plL[i]?=some (Bj i):=by unfold Bj;rw[fW,aS (show i<plL.length from h)];rfl
 exact⟨bw e,sd (by rw[bb,e];rfl)⟩
def cc:List Th:=[⟨"case", ["case"],.box,some "hall"⟩,⟨"candle", ["candle"],.lamp,some "me"⟩]
theorem xf(a:Sl)(tn:Nat)(htn:tn<4):∀(l:List Nat) (es:List L4.D) (P:List Th) (Hs:List Str) (s6 s7 s8 s9:Sl),uX es->Hs≠[]->(∀x∈Hs,∃u∈P,u.n=x/\u.k.hd=true)->Ord P->P.length+l.length<=900->Hs.length+l.length<=900->
  ∃(es':List L4.D) (P':List Th) (Hs':List Str) (t6 t7 t8 t9:Sl),uX es'/\Ord (P++P')/\P'.map Th.nw=l.map (λk=>Bj ((k+tn) % 4))/\(∀t∈P',t.k.pl=true)/\
   forL (gN 6) tB (l.map λk:Nat=>D.int (k:Nat)) [.pm es,a,.ls (P.map thD),.ls (Hs.map D.str),.im (.lst (plL.map plD)),.im (.int (tn:Nat)),s6,s7,s8,s9]=some (.nx [.pm es',a,.ls ((P++P').map thD),.ls (Hs'.map D.str),.im (.lst (plL.map plD)),.im (.int (tn:Nat)),t6,t7,t8,t9])
 |[],es,P,Hs,s6,s7,s8,s9,h,_,_,ho,_,_=>⟨es,[],Hs,s6,s7,s8,s9,h,by rw[bK];exact ho,rfl,λr hr=>(dW hr).elim,by rw[bK];rfl⟩
 |k::l,es,P,Hs,s6,s7,s8,s9,h,h0,hH,ho,hl,hl'=>by
  rw[aE]at hl hl';let Q:Sl:=.im (.lst (plL.map plD));let N:Sl:=.im (.int (tn:Nat));let K:Sl:=.im (.int (k:Nat));let i:Nat:=(k+tn) % 4;have hi:i<4:=dJ _ (by decide);obtain⟨pm,ea⟩:=JR hi;let q:=Bj i;let X:Sl:=.im (.str q.1);let Y:Sl:=.im (.tup (q.2.map D.str));obtain⟨d,e1,x1,p0,p1,h1⟩:=dgx (i:=0) (b:=4) (a:=cC (.int 4)) (λes=>[.pm es,a,.ls (P.map thD),.ls (Hs.map D.str),Q,N,K,X,Y,s9]) (λ_=>rfl) (λ_ _=>rfl) rfl h (by decide) (by decide);obtain⟨j,rfl⟩:=cH p0;have hj:j<kL.length:=by show j<4;omega
  let kd:Kd:=kL[j];have hpl:kd.pl=true:=(show ∀k∈kL,Kd.pl k=true by decide) _ (dS hj);have ek:dIx (.lst (kL.map λk=>D.str k.s)) (.int (j:Nat))=some (.str kd.s):=sd (by rw[bb,aS hj];rfl);let Z:Sl:=.im (.str kd.s);let ρ1:List Sl:=[.pm e1,a,.ls (P.map thD),.ls (Hs.map D.str),Q,N,K,X,Y,Z];obtain⟨dd,hdd,e2,h2,x2⟩:=ixs (ρ:=ρ1) (i:=0) (j:=3) h1 (by simpa using h0) (by rw[ai];omega) rfl rfl rfl (λ_=>rfl);obtain⟨p,hp,rfl⟩:=aI.mp hdd;let t:Th:=⟨q.1,q.2,kd,some p⟩;obtain⟨u,hu,hun,huk⟩:=hH p hp;have ok:Bi P t:=.inr (.inr ⟨hpl,u,hu,by rw[hun],huk⟩);let Hs1:List Str:=if kd=.box then Hs++[q.1]else Hs
  have xb:tB [.pm es,a,.ls (P.map thD),.ls (Hs.map D.str),Q,N,K,s7,s8,s9]=some (.nx [.pm e2,a,.ls ((P++[t]).map thD),.ls (Hs1.map D.str),Q,N,K,X,Y,Z]):=by
   unfold tB;refine(nJ (ρ':=[.pm es,a,.ls (P.map thD),.ls (Hs.map D.str),Q,N,K,X,Y,s9]) ?_).trans ?_
   ·have em:c2 qk (c2 qA (cV 6) (cV 5)) (cC (.int 4)) [.pm es,a,.ls (P.map thD),.ls (Hs.map D.str),Q,N,K,s7,s8,s9]=some (.int (i:Nat),[.pm es,a,.ls (P.map thD),.ls (Hs.map D.str),Q,N,K,s7,s8,s9]):=(om (x:=.int ((k:Int)+(tn:Int))) rfl rfl (se (by decide))).trans (by
     rw[show ((k:Int)+(tn:Int)) % 4=((i:Nat):Int) by show _=(((k+tn) % 4:Nat):Int);omega])
    unfold yN;rw[om (x:=.lst (plL.map plD)) (ρ1:=[.pm es,a,.ls (P.map thD),.ls (Hs.map D.str),Q,N,K,s7,s8,s9]) rfl em ea];rfl
   refine(nJ (ρ':=ρ1) ((o9 (om (x:=.lst (kL.map λk=>D.str k.s)) rfl x1 ek)).trans rfl)).trans ?_;let ρ3:List Sl:=[.pm e2,a,.ls ((P++[t]).map thD),.ls (Hs.map D.str),Q,N,K,X,Y,Z];refine(nJ (ρ':=ρ3) ((vx (BJ (es0:=P.map thD) (es:=P.map thD) (ρ1:=[.pm e2,a,.ls (P.map thD),.ls (Hs.map D.str),Q,N,K,X,Y,Z]) (d:=thD t) rfl (CO (ds:=[.str q.1,.tup (q.2.map D.str),.str kd.s,.str p]) (nU rfl (nU rfl (nU rfl (nU x2 rfl)))) rfl) rfl (by rw[ai];omega))).trans ?_)).trans ?_
   ·show some (Out.nx [.pm e2,a,.ls (P.map thD++[thD t]),.ls (Hs.map D.str),Q,N,K,X,Y,Z])=_;rw[show P.map thD++[thD t]=(P++[t]).map thD by rw[aY];rfl]
   ·have et:cT (c2 (dEq false) (cV 9) (cS "box")) ρ3=some (decide (kd=.box),ρ3):=wc (om rfl rfl (zx kd .box));by_cases hb:kd=.box
    ·rw[bc hb]at et;refine(sZ et).trans ((vx (BJ (es0:=Hs.map D.str) (es:=Hs.map D.str) (ρ1:=ρ3) (d:=.str q.1) rfl rfl rfl (by rw[ai];omega))).trans ?_);show some (Out.nx [.pm e2,a,.ls ((P++[t]).map thD),.ls (Hs.map D.str++[.str q.1]),Q,N,K,X,Y,Z])=_;rw[show Hs1.map D.str=Hs.map D.str++[.str q.1] by rw[show Hs1=Hs++[q.1] from ag hb,aY];rfl]
    ·rw[bh hb]at et;refine(rE et).trans ?_;rw[show Hs1=Hs from ah hb];rfl
  have hH1:∀y∈Hs1,∃u∈P++[t],u.n=y/\u.k.hd=true:=λy hy=>by
   have old:y∈Hs->∃u∈P++[t],u.n=y/\u.k.hd=true:=λhy=>by obtain⟨v,hv,h⟩:=hH y hy;exact⟨v,aT _ hv,h⟩
   by_cases hb:kd=.box
   ·rw[show Hs1=Hs++[q.1] from ag hb]at hy;rcases aZ.mp hy with hy|hy
    ·exact old hy
    ·rw[bg]at hy;refine⟨t,by simp,hy.symm,?_⟩;show kd.hd=true;rw[hb];rfl
   ·rw[show Hs1=Hs from ah hb]at hy;exact old hy
  have h01:Hs1≠[]:=by
   by_cases hb:kd=.box
   ·rw[show Hs1=Hs++[q.1] from ag hb];simp
   ·rw[show Hs1=Hs from ah hb];exact h0
  have hl1:Hs1.length<=Hs.length+1:=by
   by_cases hb:kd=.box
   ·rw[show Hs1=Hs++[q.1] from ag hb];simp
   ·rw[show Hs1=Hs from ah hb];omega
  obtain⟨e3,P',Hs',t6,t7,t8,t9,g1,g2,g3,g4,g5⟩:=xf a tn htn l e2 (P++[t]) Hs1 K X Y Z h2 h01 hH1 (ho.snoc ok) (by rw[aB,bY];omega) (by omega);refine⟨e3,t::P',Hs',t6,t7,t8,t9,g1,by rw[bJ]at g2;exact g2,by rw[aN,aN,g3];rfl,λr hr=>?_,?_⟩
  ·rcases aW.mp hr with rfl|hr
   ·exact hpl
   ·exact g4 r hr
  ·rw[aN];unfold forL;rw[show gN 6 (.int (k:Nat)) [.pm es,a,.ls (P.map thD),.ls (Hs.map D.str),Q,N,s6,s7,s8,s9]=some [.pm es,a,.ls (P.map thD),.ls (Hs.map D.str),Q,N,K,s7,s8,s9] from rfl];simp only[xb];rw[g5,bJ];rfl
def rmT(x:Str):Th:=⟨x,[x,"place"],.room,none⟩
structure B3(T:List Th):Prop where
 ord:Ord T
 ex:∃(r tn n:Nat) (y:Str) (P:List Th),1<=r/\r<=5/\tn<4/\n<5/\T=(rmL.take r).map rmT++⟨"me", ["me", "self"],.you,some y⟩::P/\P.map Th.nw=(aO n).map (λk=>Bj ((k+tn) % 4))/\∀t∈P,t.k.pl=true
theorem zA:∀(l:List Str) (B:List Th),Ord B->Ord (B++l.map rmT)
 |[],B,h=>by rw[eR,bK];exact h
 |x::l,B,h=>by rw[aN,List.append_cons];exact zA l _ (h.snoc (.inl ⟨rfl,rfl⟩))
theorem Ek(h:uX es):∃(T:List Th) (es':List L4.D),B3 T/\sD es []=some (TD (T++cc),es')/\uX es':=by
 let U:Sl:=.un;obtain⟨d,e1,x1,p0,p1,h1⟩:=dgx (i:=0) (b:=5) (a:=cC (.int 5)) (λes=>[.pm es,U,U,U,U,U,U,U,U,U]) (λ_=>rfl) (λ_ _=>rfl) rfl h (by decide) (by decide);obtain⟨r,rfl⟩:=cH p0;let R:List Str:=rmL.take (1+r);have lR:R.length=1+r:=by show (rmL.take (1+r)).length=_;rw[bp];show min (1+r) 5=_;omega
 let RS:Sl:=.im (.lst (R.map D.str));let T0:List Th:=R.map rmT;obtain⟨dd,hdd,e2,x2,h2⟩:=pk (i:=0) (e:=cV 1) (a:=c1 p6 (cV 1)) (L:=R.map D.str) (λes=>[.pm es,RS,.ls (T0.map thD),U,U,U,U,U,U,U]) (λ_=>rfl) (λ_ _=>rfl) rfl rfl h1 (by intro z;have:=aL cg z;rw[ai,lR]at this;simp at this) (by rw[ai];omega);obtain⟨y,hy,rfl⟩:=aI.mp hdd;let me:Th:=⟨"me", ["me", "self"],.you,some y⟩;let P0:List Th:=T0++[me];have o0:Ord T0:=by have:=zA R [] .nil;rw[cu]at this;exact this
 have o1:Ord P0:=o0.snoc (.inr (.inl ⟨rfl,rmT y,ba hy,rfl,rfl⟩));let Hs:List Str:=R++(["me"]:List Str);have hH:∀x∈Hs,∃u∈P0,u.n=x/\u.k.hd=true:=λx hx=>by
  rcases aZ.mp hx with hx|hx
  ·exact⟨rmT x,aT _ (ba hx),rfl,rfl⟩
  ·exact⟨me,aK _ (bg.mpr rfl),(bg.mp hx).symm,rfl⟩
 have lP:P0.length=2+r:=by show (R.map rmT++[me]).length=_;rw[aB,ai,lR];show 1+r+1=_;omega
 have lH:Hs.length=2+r:=by show (R++_).length=_;rw[aB,lR];show 1+r+1=_;omega
 let Q:Sl:=.im (.lst (plL.map plD));obtain⟨d3,e3,x3,q0,q1,h3⟩:=dgx (i:=0) (b:=4) (a:=cC (.int 4)) (λes=>[.pm es,RS,.ls (P0.map thD),.ls (Hs.map D.str),Q,U,U,U,U,U]) (λ_=>rfl) (λ_ _=>rfl) rfl h2 (by decide) (by decide);obtain⟨tn,rfl⟩:=cH q0;let N:Sl:=.im (.int (tn:Nat));obtain⟨d4,e4,x4,u0,u1,h4⟩:=dgx (i:=0) (b:=5) (a:=cC (.int 5)) (λes=>[.pm es,RS,.ls (P0.map thD),.ls (Hs.map D.str),Q,N,U,U,U,U]) (λ_=>rfl) (λ_ _=>rfl) rfl h3 (by decide) (by decide);obtain⟨n,rfl⟩:=cH u0;obtain⟨e5,P',Hs',t6,t7,t8,t9,h5,o5,g3,g4,x5⟩:=xf RS tn (by omega) (aO n) e4 P0 Hs U U U U h4 (by show R++(["me"]:List Str)≠[];simp) hH o1 (by rw[c8];omega) (by rw[c8];omega);let T:List Th:=P0++P';have lP':P'.length=n:=by have:=aL cg g3;rw[ai,ai,c8]at this;exact this
 have lT:T.length=2+r+n:=by show (P0++P').length=_;rw[aB,lP,lP']
 let HS:Sl:=.ls (Hs'.map D.str);have d0:B3 T:=⟨o5,1+r,tn,n,y,P',by omega,by omega,by omega,by omega,by show (R.map rmT++[me])++P'=_;rw[bJ];rfl,g3,g4⟩;let TL:Sl:=.im (TD T);refine⟨T,e5,d0,?_,h5⟩;refine FC (ρ:=[.pm e5,RS,TL,HS,Q,N,t6,t7,t8,t9]) rfl ?_ rfl;unfold sC;refine(nJ (ρ':=[.pm e1,RS,U,U,U,U,U,U,U,U]) ((o9 (p7 (Aj (ds:=rmL.map D.str) (ρ1:=[.pm es,U,U,U,U,U,U,U,U,U]) rfl rfl (Gw (om (x:=.int 1) rfl x1 rfl))))).trans ?_)).trans ?_
 ·show some (Out.nx [.pm e1,.im (.lst (cutD (rmL.map D.str) none (some (1+(r:Int))))),U,U,U,U,U,U,U,U])=_;rw[show (1+(r:Int))=((1+r:Nat):Int) by omega,Ai (1+r) (by rw[ai];show 1+r<=5;omega),<- eL]
 refine(nJ (ρ':=[.pm e1,RS,.ls (T0.map thD),U,U,U,U,U,U,U]) ((z5 (vS D.str (λx=>thD (rmT x)) R (ρ1:=[.pm e1,RS,U,U,U,U,U,U,U,U]) rfl (by omega) λx _=>⟨[.im (.str x)],[.im (.str x)],rfl,rfl,rfl⟩)).trans ?_)).trans ?_
 ·rw[show T0.map thD=R.map λx=>thD (rmT x) by show (R.map rmT).map thD=_;rw[bL];rfl];rfl
 refine(nJ (ρ':=[.pm e2,RS,.ls (P0.map thD),U,U,U,U,U,U,U]) ((vx (BJ (es0:=T0.map thD) (es:=T0.map thD) (ρ1:=[.pm e2,RS,.ls (T0.map thD),U,U,U,U,U,U,U]) (d:=thD me) rfl (CO (ds:=[.str "me", .tup [.str "me", .str "self"],.str "you", .str y]) (nU rfl (nU rfl (nU rfl (nU x2 rfl)))) rfl) rfl (by show ((R.map rmT).map thD).length<1000;rw[ai,ai];omega))).trans ?_)).trans ?_
 ·rw[show P0.map thD=T0.map thD++[thD me] by show (T0++[me]).map thD=_;rw[aY];rfl];rfl
 refine(nJ (ρ':=[.pm e2,RS,.ls (P0.map thD),.ls (Hs.map D.str),U,U,U,U,U,U]) ((z5 (qT (xs:=R.map D.str) (ys:=[.str "me"]) (ρ1:=[.pm e2,RS,.ls (P0.map thD),U,U,U,U,U,U,U]) rfl rfl (by rw[ai];show R.length+1<=1000;omega))).trans ?_)).trans ?_
 ·rw[show Hs.map D.str=R.map D.str++[.str "me"] by show (R++(["me"]:List Str)).map D.str=_;rw[aY];rfl];rfl
 refine(nJ (ρ':=[.pm e2,RS,.ls (P0.map thD),.ls (Hs.map D.str),Q,U,U,U,U,U]) rfl).trans ?_;refine(nJ ((o9 x3).trans rfl)).trans ?_;refine(nJ (ρ':=[.pm e5,RS,.ls (T.map thD),HS,Q,N,t6,t7,t8,t9]) ((sr (OH (ρ1:=[.pm e4,RS,.ls (P0.map thD),.ls (Hs.map D.str),Q,N,U,U,U,U]) x4 (by omega))).trans x5)).trans ?_;refine uA ((qT (xs:=T.map thD) (ys:=cc.map thD) (ρ1:=[.pm e5,RS,TL,HS,Q,N,t6,t7,t8,t9]) (ρ2:=[.pm e5,RS,TL,HS,Q,N,t6,t7,t8,t9]) rfl (by kernel_rfl) (by rw[ai];show T.length+2<=1000;omega)).trans ?_);rw[<-aY]
def ccW:List (Str×List Str):=[("case", ["case"]),("candle", ["candle"])]
def pl6:List (Str×List Str):=plL++ccW
def nmL:List Str:=rmL++("me" : Str)::pl6.map bC
def wP(q:Str×List Str):Str×L4.D:=(q.1,.tup (q.2.map D.str))
def plW:List (Str×L4.D):=pl6.map wP
def wdW:List (Str×L4.D):=rmL.map (λx:Str=>wP (x,([x,"place"]:List Str)))++wP ("me", ["me", "self"])::plW
structure Good(T:List Tk):Prop where
 len:T.length<=12
 r1:1<=cK .room T
 r4:cK .room T<=5
 y1:cK .you T=1
 p4:(plN T).length<=6
 nm:∀t∈T,t.n=.str t.m/\t.m∈nmL
 nd:(T.map Tk.m).Nodup
 hall:∃t∈T,t.m="hall" /\ t.k=.room
 me:∃t∈T,t.m="me" /\ t.k=.you
 ca:∃t∈T,t.w=.tup [.str "case"]/\t.k.pl=true
 cd:∃t∈T,t.w=.tup [.str "candle"]/\t.k.pl=true
 wd:∀t∈T,(t.m,t.w)∈wdW/\(t.k.pl=true->(t.m,t.w)∈plW)
 st:∀t∈T,(t.k=.room/\t.s=.non)\/(t.k=.you/\∃u∈T,t.s=.str u.m/\u.k=.room)\/(t.k.pl=true/\∃u∈T,t.s=.str u.m/\u.k.hd=true)
 rk:∃r:Str->Nat,∀t∈T,r t.m<T.length/\(t.s=.non\/∃v∈T,t.s=.str v.m/\r v.m<r t.m)
def qL(tn n:Nat):List (Str×List Str):=((aO n).map λk=>Bj ((k+tn) % 4))++ccW
theorem Nf:((aO 4).all λtn=>(aO 5).all λn=>decide (rmL++("me" : Str)::(qL tn n).map bC).Nodup)=true:=by kernel_rfl
theorem Ji{T1:List Th}(d:B3 T1):Good ((T1++cc).map Th.tk):=by
 obtain⟨r,tn,n,y,P1,r1,r4,ht,hn,e1,eP1,hP1⟩:=d.ex;let R:=(rmL.take r).map rmT;let me:Th:=⟨"me", ["me", "self"],.you,some y⟩;generalize eT:T1++cc=T0;generalize eQ:P1++cc=P;have e0:T0=R++me::P:=by rw[<-eT,<- eQ,e1,bJ];rfl
 have eP:P.map Th.nw=qL tn n:=by rw[<-eQ,aY,eP1];rfl
 have hP:∀t∈P,t.k.pl=true:=λt h=>by
  rw[<-eQ]at h;rcases aZ.mp h with h|h
  ·exact hP1 t h
  ·exact(show ∀t∈cc,t.k.pl=true by simp[cc,Kd.pl]) t h
 have hall1:rmT "hall" ∈ T1:=by rw[e1];refine aT _ (ba ?_);obtain⟨q,rfl⟩:∃q,r=q+1:=⟨r - 1,by omega⟩;exact aH
 have me1:me∈T1:=by rw[e1];exact aK _ aH
 have ord0:Ord T0:=by rw[<-eT];have o1:=d.ord.snoc (r:=⟨"case", ["case"],.box,some "hall"⟩) (.inr (.inr ⟨rfl,rmT "hall", hall1,rfl,rfl⟩));have o2:=o1.snoc (r:=⟨"candle", ["candle"],.lamp,some "me"⟩) (.inr (.inr ⟨rfl,me,aT _ me1,rfl,rfl⟩));rw[bJ]at o2;exact o2
 have lR:R.length=r:=by show ((rmL.take r).map rmT).length=r;rw[ai,bp];show min r 5=r;omega
 have lP:P.length=n+2:=by have:=aL cg eP;rw[ai]at this;rw[this];unfold qL;rw[aB,ai,c8];rfl
 have rk:∀t∈R,t.k=.room:=λt h=>by obtain⟨x,_,rfl⟩:=aI.mp h;rfl
 have spl:∀p:Th->Bool,T0.filter p=R.filter p++((if p me=true then [me]else [])++P.filter p):=λp=>by rw[e0,ig,ix];show R.filter p++(if p me=true then me::P.filter p else P.filter p)=_;split<;>rfl
 have all_:∀(p:Kd->Bool) (L:List Th),(∀t∈L,p t.k=true)->L.filter (λt=>p t.k)=L:=λp L h=>jH.mpr h;have non_:∀(p:Kd->Bool) (L:List Th),(∀t∈L,p t.k=false)->L.filter (λt=>p t.k)=[]:=λp L h=>List.filter_eq_nil_iff.mpr λt ht z=>by rw[h t ht]at z;cases z
 have plk:∀k:Kd,k.pl=true->decide (k=.room)=false/\decide (k=.you)=false:=Nc (λz=>by cases z) (λz=>by cases z) (λ_=>⟨rfl,rfl⟩) (λ_=>⟨rfl,rfl⟩) (λ_=>⟨rfl,rfl⟩) (λ_=>⟨rfl,rfl⟩);have fr:T0.filter (λt=>decide (t.k=.room))=R:=by rw[spl,all_ (λk=>decide (k=.room)) R λt h=>by rw[rk t h];rfl,non_ (λk=>decide (k=.room)) P λt h=>(plk t.k (hP t h)).1];exact bK R
 have fy:T0.filter (λt=>decide (t.k=.you))=[me]:=by rw[spl,non_ (λk=>decide (k=.you)) R λt h=>by rw[rk t h];rfl,non_ (λk=>decide (k=.you)) P λt h=>(plk t.k (hP t h)).2];rfl
 have fp:T0.filter (λt=>t.k.pl)=P:=by rw[spl,non_ Kd.pl R λt h=>by rw[rk t h];rfl,all_ Kd.pl P hP];rfl
 have eN:T0.map Th.n=rmL.take r++("me" : Str)::(qL tn n).map bC:=by
  rw[e0,aY,aN];have e1:((rmL.take r).map rmT).map Th.n=rmL.take r:=by rw[bL];exact iX _
  have e2:P.map Th.n=(qL tn n).map bC:=by have:=aL (lC bC) eP;rw[bL]at this;exact this
  rw[show R.map Th.n=rmL.take r from e1,e2]
 have big:=bG (aw.mp (aw.mp Nf tn (bA.mpr ht)) n (bA.mpr hn));have nd0:(T0.map Th.n).Nodup:=by rw[eN];exact big.sublist ((il r rmL).append (gh _))
 have qIn:∀x∈qL tn n,x∈pl6:=λx h=>by
  rcases aZ.mp h with h|h
  ·obtain⟨k,_,e⟩:=aI.mp h;rw[<-e];exact aT _ (JR (dJ _ (by decide))).1
  ·exact aK _ h
 have wP':∀t∈P,t.nw∈pl6:=λt h=>qIn _ (by rw[<-eP];exact ba h);have eM:(T0.map Th.tk).map Tk.m=T0.map Th.n:=by rw[bL];rfl
 have fl:∀p:Tk->Bool,(T0.map Th.tk).filter p=(T0.filter (p∘Th.tk)).map Th.tk:=λp=>List.filter_map;have hall0:rmT "hall" ∈ T0:=by rw[<-eT];exact aT _ hall1
 have me0:me∈T0:=by rw[<-eT];exact aT _ me1
 have cc0:∀t∈cc,t∈T0:=λt h=>by rw[<-eT];exact aK _ h
 constructor
 ·rw[ai,e0,aB,aE,ai,bp,lP];show min r 5+(n+2+1)<=12;omega
 ·show 1<=((T0.map Th.tk).filter λt=>decide (t.k=.room)).length;rw[fl,ai];show 1<=(T0.filter λt=>decide (t.k=.room)).length;rw[fr,lR];exact r1
 ·show ((T0.map Th.tk).filter λt=>decide (t.k=.room)).length<=5;rw[fl,ai];show (T0.filter λt=>decide (t.k=.room)).length<=5;rw[fr,lR];exact r4
 ·show ((T0.map Th.tk).filter λt=>decide (t.k=.you)).length=1;rw[fl,ai];show (T0.filter λt=>decide (t.k=.you)).length=1;rw[fy];rfl
 ·show ((T0.map Th.tk).filter λt=>t.k.pl).length<=6;rw[fl,ai];show (T0.filter λt=>t.k.pl).length<=6;rw[fp,lP];omega
 ·intro t ht;obtain⟨u,hu,rfl⟩:=aI.mp ht;refine⟨rfl,?_⟩;have hx:u.n∈T0.map Th.n:=ba hu;rw[eN]at hx;show u.n∈nmL;rcases aZ.mp hx with hx|hx
  ·exact aT _ (fB hx)
  ·refine aK _ ?_;rcases aW.mp hx with hx|hx
   ·rw[hx];exact aH
   ·obtain⟨q,hq,e⟩:=aI.mp hx;rw[<-e];exact aM _ (ba (qIn q hq))
 ·rw[eM];exact nd0
 ·exact⟨_,ba hall0,rfl,rfl⟩
 ·exact⟨_,ba me0,rfl,rfl⟩
 ·exact⟨_,ba (cc0 _ aH),rfl,rfl⟩
 ·exact⟨_,ba (cc0 _ (aM _ aH)),rfl,rfl⟩
 ·intro t ht;obtain⟨u,hu,rfl⟩:=aI.mp ht;have pp:u.nw∈pl6->((u.tk.m,u.tk.w):Str×L4.D)∈plW:=λh=>ba (f:=wP) h;rw[e0]at hu;rcases aZ.mp hu with h|h
  ·obtain⟨x,hx,rfl⟩:=aI.mp h;exact⟨aT _ (aI.mpr ⟨x,fB hx,rfl⟩),λz=>by cases z⟩
  ·rcases aW.mp h with rfl|h
   ·exact⟨aK _ aH,λz=>by cases z⟩
   ·exact⟨aK _ (aM _ (pp (wP' u h))),λ_=>pp (wP' u h)⟩
 ·intro t ht;obtain⟨u,hu,rfl⟩:=aI.mp ht;rcases ord0.all u hu with ⟨h1,h2⟩|⟨h1,v,hv,h2,h3⟩|⟨h1,v,hv,h2,h3⟩
  ·exact .inl ⟨h1,by show oS u.s=_;rw[h2];rfl⟩
  ·exact .inr (.inl ⟨h1,v.tk,ba hv,by show oS u.s=_;rw[h2];rfl,h3⟩)
  ·exact .inr (.inr ⟨h1,v.tk,ba hv,by show oS u.s=_;rw[h2];rfl,h3⟩)
 ·obtain⟨rk,h⟩:=ord0.rank nd0;refine⟨rk,λt ht=>?_⟩;obtain⟨u,hu,rfl⟩:=aI.mp ht;obtain⟨h1,h2⟩:=h u hu;refine⟨by rw[ai];exact h1,?_⟩;cases e:u.s with
  |none=>exact .inl (by show oS u.s=_;rw[e];rfl)
  |some p=>obtain⟨h3,v,hv,rfl⟩:=h2 p e;exact .inr ⟨v.tk,ba hv,by show oS u.s=_;rw[e];rfl,h3⟩
def gL:List Str:=["gate"]
def gt:Mk:=⟨"gate", 0,1⟩
abbrev GD':L4.D:=MD [gt]
structure In(O T T':List Tk):Prop where
 g:Good T
 p:T'.Perm (O++T)
 lo:O.length<=1
def isS:L4.D->Bool
 |.str _=>true
 |_=>false
theorem Ng(h:isS t.n=true):t.n=.str t.m:=by
 obtain⟨n,w,k,s⟩:=t;cases n with
 |str x=>rfl
 |_=>cases h
theorem Gx{α:Type}{p:α->Bool}:∀{l:List α},l.all p=false->∃a∈l,p a=false
 |[],h=>by cases h
 |a::l,h=>by
  rw[cy]at h;cases q:p a with
  |false=>exact⟨a,aH,q⟩
  |true=>rw[q,kP]at h;obtain⟨b,hb,e⟩:=Gx h;exact⟨b,aM _ hb,e⟩
theorem JS:(nmL.all λx=>isT (oh [.str x]))=true:=by kernel_rfl
def kO(O:List Tk):Bool:=bD (cK .room O) 0&&eZ (cK .you O) 0
def nO(O:List Tk):Bool:=O.all (λo=>isS o.n&&isT (oh [o.n]))&&decide (O.map Tk.m++(nmL++gL)).Nodup
section
variable{O T T':List Tk}(i:In O T T')
include i
theorem In.mem:t∈T' ↔ t∈O\/t∈T:=by rw[i.p.mem_iff,aZ]
theorem In.len:T'.length=O.length+T.length:=by rw[i.p.length_eq,aB]
theorem In.l12:T'.length<=13:=by have:=i.len;have:=i.lo;have:=i.g.len;omega
theorem In.cK(k:Kd):cK k T'=cK k O+cK k T:=by unfold K08x.cK;rw[(i.p.filter _).length_eq,ig,aB]
theorem In.pl:(plN T').length<=O.length+6:=by unfold plN;rw[(i.p.filter _).length_eq,ig,aB];have h1:=fw (λt:Tk=>t.k.pl) O;have h2:=i.g.p4;unfold plN at h2;omega
theorem In.things(h:kO O=true):qd [LD T']=some true:=by unfold kO at h;rw[aA]at h;have h1:=bI h.1;have h2:=ju h.2;have:=i.l12;have a:=i.cK .room;have b:=i.cK .you;have c:=i.pl;have e:=i.lo;have r1:=i.g.r1;have r4:=i.g.r4;have y1:=i.g.y1;exact OC (by omega) (by omega) (by omega) (by omega) (by omega)
theorem In.name_tot(h:O.all (λo=>isB (oh [o.n]))=true):∀t∈T',oh [t.n]=some (.bl (isT (oh [t.n]))):=λt ht=>by
 rcases i.mem.mp ht with h1|h1
 ·exact Ah (aw.mp h t h1)
 ·obtain⟨e,m⟩:=i.g.nm t h1;have q:=vd (aw.mp JS t.m m);rw[e,q];rfl
theorem Jj:∀m∈[gt],oh [.str m.n]=some (.bl true):=λm h=>by rw[bg]at h;subst h;kernel_rfl
theorem In.strs(h:O.all (λo=>isS o.n)=true):∀t∈T',t.n=.str t.m:=λt ht=>by
 rcases i.mem.mp ht with h1|h1
 ·exact Ng (aw.mp h t h1)
 ·exact(i.g.nm t h1).1
theorem In.names_eq(hs:O.all (λo=>isS o.n)=true)(h:O.all (λo=>isT (oh [o.n]))=true):pE [LD T',GD']=some (decide (T'.map Tk.m++gL).Nodup):=by
 have l:=i.l12;have hB:O.all (λo=>isB (oh [o.n]))=true:=pz λo ho=>by rw[vd (aw.mp h o ho)];rfl
 refine(M7 (by omega) (by decide) (Jj i) (λt=>isT (oh [t.n])) (i.name_tot hB)).2 (pz λt ht=>?_) (T'.map Tk.m) ?_
 ·rcases i.mem.mp ht with h1|h1
  ·exact aw.mp h t h1
  ·obtain⟨e,m⟩:=i.g.nm t h1;rw[e];exact aw.mp JS t.m m
 ·rw[bL];exact jJ λt ht=>i.strs hs t ht
theorem In.nd(h:nO O=true):(T'.map Tk.m++gL).Nodup:=by
 unfold nO at h;rw[aA]at h;have nd:=bG h.2;refine((i.p.map Tk.m).append_right _).nodup_iff.mpr ?_;rw[aY,bJ];obtain⟨n1,n2,n3⟩:=bO.mp nd;obtain⟨m1,m2,m3⟩:=bO.mp n2;have sub:∀x∈T.map Tk.m,x∈nmL:=λx hx=>by obtain⟨t,ht,rfl⟩:=aI.mp hx;exact(i.g.nm t ht).2
 refine bO.mpr ⟨n1,bO.mpr ⟨i.g.nd,m2,λa ha b hb=>m3 a (sub a ha) b hb⟩,λa ha b hb=>n3 a ha b ?_⟩;rcases aZ.mp hb with hb|hb
 ·exact aT _ (sub b hb)
 ·exact aK _ hb
theorem In.names(h:nO O=true):pE [LD T',GD']=some true/\(T'.map Tk.m).Nodup/\∀t∈T',t.n=.str t.m:=by
 have nd:=i.nd h;unfold nO at h;rw[aA]at h;have hs:O.all (λo=>isS o.n)=true:=pz λo ho=>by have:=aw.mp h.1 o ho;rw[aA]at this;exact this.1
 have hT:O.all (λo=>isT (oh [o.n]))=true:=pz λo ho=>by have:=aw.mp h.1 o ho;rw[aA]at this;exact this.2
 exact⟨(i.names_eq hs hT).trans (by rw[bc nd]),(bO.mp nd).1,i.strs hs⟩
end
def gS(O:List Tk)(o:Tk):Bool:=match o.k with
 |.room=>Jf o.s
 |.you=>false
 |_=>match o.s with
  |.str x=>decide (x="hall")||O.any λu=>u.k.hd&&decide (u.m=x)
  |_=>false
section
variable{O T T':List Tk}(i:In O T T')(hk:kO O=true)(hn:nO O=true)
include i
theorem In.hd:x∈hdN T' ↔ ∃u∈T',u.k.hd=true/\u.m=x:=by
 unfold hdN;constructor
 ·intro h;obtain⟨u,hu,e⟩:=aI.mp h;exact⟨u,(bz.mp hu).1,(bz.mp hu).2,e⟩
 ·rintro⟨u,hu,h,rfl⟩;exact ba (bz.mpr ⟨hu,h⟩)
theorem In.st_good(ht:t∈T):stB T' t=true:=by
 obtain⟨n,w,k,s⟩:=t;have hr:∀u∈T,u.k=.room->u.m∈rmN T':=λu hu hk=>ba (bz.mpr ⟨i.mem.mpr (.inr hu),bc hk⟩);have hh:∀u∈T,u.k.hd=true->u.m∈hdN T':=λu hu hk=>i.hd.mpr ⟨u,i.mem.mpr (.inr hu),hk,rfl⟩;rcases i.g.st _ ht with ⟨h1,h2⟩|⟨h1,u,hu,h2,h3⟩|⟨h1,u,hu,h2,h3⟩
 ·simp only at h1 h2;subst h1 h2;rfl
 ·simp only at h1 h2;subst h1 h2;exact bc (hr u hu h3)
 ·simp only at h1 h2;subst h2;cases k with
  |room=>cases h1
  |you=>cases h1
  |_=>exact bc (hh u hu h3)
theorem In.st_odd{o:Tk}(ho:o∈O)(h:gS O o=true):stB T' o=true:=by
 have key:∀x:Str,(decide (x="hall")||O.any λu=>u.k.hd&&decide (u.m=x))=true->decide (x∈hdN T')=true:=λx h=>by
  refine bc (i.hd.mpr ?_);rw[dZ]at h;rcases h with h|h
  ·obtain⟨t,ht,h1,h2⟩:=i.g.hall;exact⟨t,i.mem.mpr (.inr ht),by rw[h2];rfl,by rw[h1,bG h]⟩
  ·obtain⟨u,hu,e⟩:=bS.mp h;rw[aA]at e;exact⟨u,i.mem.mpr (.inl hu),e.1,bG e.2⟩
 obtain⟨n,w,k,s⟩:=o;cases k with
 |room=>exact h
 |you=>cases h
 |_=>
  cases s with
  |str x=>exact key x h
  |_=>cases h
theorem In.s_ok(h:O.all (λo=>sOk o.s)=true):∀t∈T',sOk t.s=true:=λt ht=>by
 rcases i.mem.mp ht with h1|h1
 ·exact aw.mp h t h1
 ·rcases i.g.st t h1 with ⟨_,e⟩|⟨_,u,_,e,_⟩|⟨_,u,_,e,_⟩<;>rw[e]<;>rfl
include hk hn
theorem In.all_st(h:O.all (gS O)=true):T'.all (stB T')=true:=pz λt ht=>by
 rcases i.mem.mp ht with h1|h1
 ·exact i.st_odd h1 (aw.mp h t h1)
 ·exact i.st_good h1
theorem In.apart{o:Tk}(ho:o∈O)(ht:t∈T):o.m≠t.m:=by have nd:=(bO.mp (i.nd hn)).1;have nd':=(i.p.map Tk.m).nodup_iff.mp nd;rw[aY]at nd';exact(bO.mp nd').2.2 _ (ba ho) _ (ba ht)
theorem In.starts(h:O.all (λo=>match o.k with|.room=>Jf o.s|.you=>false|_=>match o.s with|.str x=>decide (x="hall")|_=>false)=true):qe [LD T']=some true:=by
 obtain⟨n1,n2,n3⟩:=i.names hn;have l:T'.length<=900:=by have:=i.l12;omega
 obtain⟨r,hr⟩:=i.g.rk;have one:∀o∈O,gS O o=true/\(o.s=.non\/o.s=.str "hall"):=λo ho=>by
  have q:=aw.mp h o ho;obtain⟨n,w,k,s⟩:=o;cases k with
  |room=>cases s with
   |non=>exact⟨rfl,.inl rfl⟩
   |_=>cases q
  |you=>cases q
  |_=>cases s with
   |str x=>refine⟨?_,.inr (by rw[bG q])⟩;show (decide (x="hall")||_)=true;rw[show decide (x="hall")=true from q];rfl
   |_=>cases q
 have hg:O.all (gS O)=true:=pz λo ho=>(one o ho).1;have hs:O.all (λo=>sOk o.s)=true:=pz λo ho=>by rcases(one o ho).2 with e|e<;>rw[e]<;>rfl
 obtain⟨b,hb,hbm,hbk⟩:=i.g.hall;refine(M8 l n3 (i.s_ok hs) n2 (i.all_st hk hn hg) (λ_=>true) λt ht=>?_).trans (by rw[pz λ_ _=>rfl]);refine Gq l n2 (λ_=>True) (λx=>if x∈O.map Tk.m then T.length else r x) (λu hu _=>?_) ht trivial;have out:∀v∈T,v.m∉O.map Tk.m:=λv hv z=>by obtain⟨o,ho,e⟩:=aI.mp z;exact i.apart hk hn ho hv e
 have ln:=i.len;rcases i.mem.mp hu with h1|h1
 ·rw[ag (ba h1)];have l0:0<O.length:=js h1;refine⟨by omega,?_⟩;rcases(one u h1).2 with e|e
  ·exact .inl e
  ·refine .inr ⟨b,i.mem.mpr (.inr hb),trivial,by rw[e,hbm],?_⟩;rw[ah (out b hb)];exact(hr b hb).1
 ·rw[ah (out u h1)];obtain⟨h2,h3⟩:=hr u h1;refine⟨by omega,?_⟩;rcases h3 with h3|⟨v,hv,h4,h5⟩
  ·exact .inl h3
  ·refine .inr ⟨v,i.mem.mpr (.inr hv),trivial,h4,?_⟩;rw[ah (out v hv)];exact h5
end
theorem JT:(wdW.all λq=>isT (oE [q.2]))=true:=by kernel_rfl
def hH(O:List Tk):Bool:=(plW.map dj++O.map Tk.w).all λa=>(plW.map dj++O.map Tk.w).all λb=>isB (qC [a,b])
def hO(O:List Tk):Bool:=O.all (λo=>match o.k with|.room=>Jf o.s|.you=>false|_=>match o.s with|.str x=>decide (x="hall")|_=>false)
def aP(O:List Tk):Bool:=(plW++O.map λo=>(o.m,o.w)).all λp=>(plW++O.map λo=>(o.m,o.w)).all λq=>decide (q.1=p.1)||!isT (qC [q.2,p.2])
def oO(O:List Tk):Bool:=kO O&&(nO O&&(hO O&&(O.all (λo=>isT (oE [o.w]))&&(hH O&&aP O))))
def hA(u t:Tk):Bool:=isT (qC [u.w,t.w])
section
variable{O T T':List Tk}(i:In O T T')
include i
theorem In.word_tot(h:O.all (λo=>isB (oE [o.w]))=true):∀t∈T',oE [t.w]=some (.bl (isT (oE [t.w]))):=λt ht=>by
 rcases i.mem.mp ht with h1|h1
 ·exact Ah (aw.mp h t h1)
 ·have q:=vd (aw.mp JT _ (i.g.wd t h1).1);rw[show oE [t.w]=some (.bl true) from q];rfl
theorem In.words(hn:nO O=true)(h:O.all (λo=>isT (oE [o.w]))=true)(hh:hH O=true):oq [LD T']=some ((plN T').all (taB hA (plN T'))):=by
 obtain⟨n1,n2,n3⟩:=i.names hn;have hB:O.all (λo=>isB (oE [o.w]))=true:=pz λo ho=>by rw[vd (aw.mp h o ho)];rfl
 refine(M9 (by have:=i.l12;omega) (λt=>isT (oE [t.w])) (i.word_tot hB)).2 (pz λt ht=>?_) n3 hA λt ht u hu=>?_
 ·rcases i.mem.mp ht with h1|h1
  ·exact aw.mp h t h1
  ·exact aw.mp JT _ (i.g.wd t h1).1
 ·have mem:∀v∈plN T',v.w∈plW.map dj++O.map Tk.w:=λv hv=>by
   obtain⟨h1,h2⟩:=bz.mp hv;rcases i.mem.mp h1 with h1|h1
   ·exact aK _ (ba h1)
   ·exact aT _ (aI.mpr ⟨_,(i.g.wd v h1).2 h2,rfl⟩)
  exact Ah (aw.mp (aw.mp hh u.w (mem u hu)) t.w (mem t ht))
theorem In.apart_ok(hn:nO O=true)(h:O.all (λo=>isT (oE [o.w]))=true)(hh:hH O=true)(hb:aP O=true):oq [LD T']=some true:=by
 refine(i.words hn h hh).trans ?_;rw[pz λt ht=>?_];have pr:∀v∈plN T',(v.m,v.w)∈plW++O.map λo=>(o.m,o.w):=λv hv=>by
  obtain⟨h1,h2⟩:=bz.mp hv;rcases i.mem.mp h1 with h1|h1
  ·exact aK _ (aI.mpr ⟨v,h1,rfl⟩)
  ·exact aT _ ((i.g.wd v h1).2 h2)
 unfold taB;rw[c7,fH];intro z;obtain⟨u,hu,e⟩:=bS.mp z;obtain⟨hu,ne⟩:=bz.mp hu;have q:=aw.mp (aw.mp hb _ (pr t ht)) _ (pr u hu);rw[dZ]at q;rcases q with q|q
 ·rw[show decide (u.m=t.m)=true from q]at ne;cases ne
 ·unfold hA at e;rw[e]at q;cases q
theorem In.rt(h:oO O=true):Rt T':=by
 unfold oO at h;simp only[aA]at h;obtain⟨hk,hn,hs,hw,hh,hb⟩:=h;obtain⟨n1,n2,n3⟩:=i.names hn;have l:=i.l12;refine⟨by omega,n3,i.things hk,n1,i.starts hk hn hs,i.apart_ok hn hw hh hb,?_⟩;let ρ:List Sl:=[.im (LD T'),.im GG];have h:=fw (λt:Tk=>t.k.mk) T';refine⟨_,FD (ρ:=ρ) rfl (uA (qT (p7 (ux tkD Tk.n (λt=>t.k.mk) T' (ρ1:=ρ) rfl (by omega) λt _=>⟨[.im (tkD t)],[.im (tkD t)],rfl,wc (uB (xs:=[t.n,t.w,.str t.k.s,t.s]) (ys:=[]) rfl rfl rfl rfl (De t)),λ_=>⟨_,oI rfl (sE t),rfl⟩,λ_=>rfl⟩))
  (p7 (vS mkD (λt=>D.str t.n) [gt] rfl (by decide) λt _=>⟨_,_,rfl,oI rfl (Dg t),rfl⟩)) (by rw[ai];show (T'.filter λt=>t.k.mk).length+1<=1000;omega))),aK _ aH,λd hd=>?_⟩
 rcases aZ.mp hd with hd|hd
 ·obtain⟨t,ht,rfl⟩:=aI.mp hd;exact⟨_,n3 t (bz.mp ht).1⟩
 ·rw[bg.mp hd];exact⟨_,rfl⟩
end
theorem Ak(h:e ρ=some (.bl b,ρ1)):vY e ρ=some (.bl !b,ρ1):=by unfold vY;rw[h]
def apB(l m:List Str):Bool:=!l.any λx=>decide (x∈m)
theorem yG{m:List Str}(hd:d=.lst (m.map D.str)\/d=.tup (m.map D.str))(hl:l.length<=900):oX [.lst (l.map D.str),d]=some (.bl (apB l m)):=by
 let ρ:List Sl:=[.im (.lst (l.map D.str)),.im d];refine p8 (ρ:=ρ) rfl ?_;have e:c1 x9 (cL (nZ 1 [1] (iL (cV 0)) (gN 0) oQ (c2 (dIn false) (cV 0) (cV 1)))) ρ=some (.bl (l.any λx=>decide (x∈m)),ρ):=Dd D.str (λx=>decide (x∈m)) l rfl (by omega) λx hx=>⟨[.im (.str x),.im d],[.im (.str x),.im d],rfl,om rfl rfl (by
  rcases hd with rfl|rfl
  ·rw[yf];rfl
  ·rw[F1];rfl),rfl⟩
 exact qv (Ak e)
def tw(t:Tk):List Str:=match t.w with
 |.tup ds=>ds.map nS
 |_=>[]
structure Vk where
 n:Str
 o:List Str
 f:Str
 j:Option Str
def vkD(v:Vk):L4.D:=.obj 2 ["name", "others", "form", "joining"] [.str v.n,.tup (v.o.map D.str),.str v.f,oS v.j]
def Vk.ws(v:Vk):List Str:=v.n::v.o
def k9:List Vk:=[⟨"take", [],"one", none⟩,⟨"drop", [],"one", none⟩,⟨"open", [],"one", none⟩,⟨"shut", [],"one", none⟩,⟨"light", [],"one", none⟩,⟨"douse", [],"one", none⟩,⟨"put", [],"two", some "in"⟩,⟨"go", [],"way", none⟩,⟨"wait", [],"alone", none⟩]
theorem JU:v9=k9.map vkD:=rfl
structure Wy where
 r:Str
 w:Str
 g:Str
 m:Option Str
def wyD(w:Wy):L4.D:=.tup [.str w.r,.str w.w,.str w.g,oS w.m]
def nwL:List Str:=["the", "a", "undo", "restart"]
theorem yH{a b c s5 s6 s7:Sl}:∀(P:List Tk) (acc:List Str) (s:Sl),acc.length+4 * P.length<=900->(∀t∈P,t.w=.tup ((tw t).map D.str)/\(tw t).length<=4)->
  ∃s':Sl,forL (gN 4) (qy (uf 3 (c1 (n9 pj "words") (cV 4)))) (P.map tkD) [a,b,c,.ls (acc.map D.str),s,s5,s6,s7]=some (.nx [a,b,c,.ls ((acc++P.flatMap tw).map D.str),s',s5,s6,s7])
 |[],acc,s,_,_=>⟨s,by simp;rfl⟩
 |t::P,acc,s,hl,hw=>by
  obtain⟨ew,h3⟩:=hw t aH;rw[aE]at hl;obtain⟨s',e⟩:=yH P (acc++tw t) (.im (tkD t)) (by rw[aB];omega) (λu hu=>hw u (aM _ hu));refine⟨s',?_⟩;rw[aN];unfold forL;have e1:qy (uf 3 (c1 (n9 pj "words") (cV 4))) [a,b,c,.ls (acc.map D.str),.im (tkD t),s5,s6,s7]=some (.nx [a,b,c,.ls ((acc++tw t).map D.str),.im (tkD t),s5,s6,s7]):=by refine(vx (d:=.non) (ρ':=[a,b,c,.ls ((acc++tw t).map D.str),.im (tkD t),s5,s6,s7]) ?_);unfold uf;rw[show c1 (n9 pj "words") (cV 4) [a,b,c,.ls (acc.map D.str),.im (tkD t),s5,s6,s7]=some (.tup ((tw t).map D.str),[a,b,c,.ls (acc.map D.str),.im (tkD t),s5,s6,s7]) from oI rfl ((xy t).trans (aL some ew))];show (if (acc.map D.str).length+((tw t).map D.str).length<=1000 then some (D.non,[a,b,c,.ls (acc.map D.str++(tw t).map D.str),.im (tkD t),s5,s6,s7])else none)=_;rw[ag (by rw[ai,ai];omega),aY]
  rw[show gN 4 (tkD t) [a,b,c,.ls (acc.map D.str),s,s5,s6,s7]=some [a,b,c,.ls (acc.map D.str),.im (tkD t),s5,s6,s7] from rfl];simp only[e1];rw[e,eD,bJ]
theorem Dl{a b c s3 s4 s7:Sl}:∀(V:List Vk) (acc:List Str) (s:Sl),acc.length+3 * V.length<=900->(∀v∈V,v.o.length<=2)->
  ∃s',forL (gN 6) (qy (uf 5 (wH (oP (a1 (c1 (n9 n8 "name") (cV 6)))) (c1 (n9 p9 "others") (cV 6))))) (V.map vkD) [a,b,c,s3,s4,.ls (acc.map D.str),s,s7]=some (.nx [a,b,c,s3,s4,.ls ((acc++V.flatMap Vk.ws).map D.str),s',s7])
 |[],acc,s,_,_=>⟨s,by simp;rfl⟩
 |v::V,acc,s,hl,hw=>by
  have h3:=hw v aH;rw[aE]at hl;have lw:v.ws.length<=3:=by unfold Vk.ws;rw[aE];omega
  obtain⟨s',e⟩:=Dl (a:=a) (b:=b) (c:=c) (s3:=s3) (s4:=s4) (s7:=s7) V (acc++v.ws) (.im (vkD v)) (by rw[aB];omega) λu hu=>hw u (aM _ hu);refine⟨s',?_⟩;rw[aN];unfold forL;let ρ:List Sl:=[a,b,c,s3,s4,.ls (acc.map D.str),.im (vkD v),s7];have e0:wH (oP (a1 (c1 (n9 n8 "name") (cV 6)))) (c1 (n9 p9 "others") (cV 6)) ρ=some (.tup (v.ws.map D.str),ρ):=by show (if ([]:List L4.D).length+(v.o.map D.str).length<=900 then some (D.tup (.str v.n::[]++v.o.map D.str),ρ)else none)=_;rw[ag (by rw[ai];simp only[dE];omega)];rfl
  have e1:qy (uf 5 (wH (oP (a1 (c1 (n9 n8 "name") (cV 6)))) (c1 (n9 p9 "others") (cV 6)))) ρ=some (.nx [a,b,c,s3,s4,.ls ((acc++v.ws).map D.str),.im (vkD v),s7]):=by refine vx (d:=.non) ?_;unfold uf;rw[e0];show (if (acc.map D.str).length+(v.ws.map D.str).length<=1000 then some (D.non,[a,b,c,s3,s4,.ls (acc.map D.str++v.ws.map D.str),.im (vkD v),s7])else none)=_;rw[ag (by rw[ai,ai];omega),aY]
  rw[show gN 6 (vkD v) [a,b,c,s3,s4,.ls (acc.map D.str),s,s7]=some ρ from rfl];simp only[e1];rw[e,eD,bJ]
def jsN(V:List Vk):List Str:=V.filterMap Vk.j
theorem OJ(V:List Vk)(hl:V.length<=900)(h2:cV 2 ρ=some (.lst (V.map vkD),ρ)):nZ 1 [] (iL (cV 2)) (gN 0) (cT (c2 zc (c1 (n9 pq "joining") (cV 0)) (cC D.non))) (c1 (n9 pq "joining") (cV 0)) ρ=some ((jsN V).map D.str,ρ):=by
 have hs:iL (cV 2) ρ=some (V.map vkD,ρ):=by unfold iL;rw[h2]
 refine(ux (k:=1) (cap:=[]) (g:=gN 0) (ft:=cT (c2 zc (c1 (n9 pq "joining") (cV 0)) (cC D.non))) (fe:=c1 (n9 pq "joining") (cV 0)) vkD (λv=>oS v.j) (λv=>v.j.isSome) V hs (by omega) λv _=>⟨[.im (vkD v)],[.im (vkD v)],rfl,?_,λ_=>⟨[.im (vkD v)],rfl,rfl⟩,λ_=>rfl⟩).trans ?_
 ·obtain⟨n,o,f,j⟩:=v;cases j<;>rfl
 ·congr 2;unfold jsN;clear hs h2 hl
  induction V with
  |nil=>rfl
  |cons v V ih=>
   obtain⟨n,o,f,j⟩:=v;cases j with
   |none=>rw[List.filter_cons_of_neg (by simp),List.filterMap_cons_none rfl];exact ih
   |some x=>rw[List.filter_cons_of_pos (by simp)];exact aL (D.str x::·) ih
def yI(O U bt:List Str):Bool:=decide U.Nodup&&(apB (U++bt) O&&(apB (U++bt) nwL&&apB bt U))
theorem Gy{W:List Wy}{V:List Vk}(hl:T.length<=20)(hw:∀t∈plN T,t.w=.tup ((tw t).map D.str)/\(tw t).length<=4)(hW:W.length<=20)(hV:V.length<=40)(ho:∀v∈V,v.o.length<=2):
  pb [LD T,.lst (W.map wyD),.lst (V.map vkD)]=some (yI ((plN T).flatMap tw) (V.flatMap Vk.ws) (jsN V++W.map Wy.w)):=by
 let P:=plN T;have hP:P.length<=20:=bH (fw _ _) hl;let A:Sl:=.im (LD T);let B:Sl:=.im (.lst (W.map wyD));let C:Sl:=.im (.lst (V.map vkD));obtain⟨s',e1⟩:=yH (a:=A) (b:=B) (c:=C) (s5:=.un) (s6:=.un) (s7:=.un) P [] .un (by simp;omega) hw;let O:=P.flatMap tw;let U:=V.flatMap Vk.ws;let m1:Sl:=.ls (O.map D.str);obtain⟨z,e2⟩:=Dl (a:=A) (b:=B) (c:=C) (s3:=m1) (s4:=s') (s7:=.un) V [] .un (by simp;omega) ho;let bt:List Str:=jsN V++W.map Wy.w;let Z:Sl:=.im (.lst (bt.map D.str));have lU:U.length<=120:=by
  have:∀V:List Vk,(∀v∈V,v.o.length<=2)->(V.flatMap Vk.ws).length<=3 * V.length:=by
   intro V
   induction V with
   |nil=>exact λ_=>aC _
   |cons v V ih=>intro h;have h1:=h v aH;have h2:=ih λu hu=>h u (aM _ hu);rw[eD,aB,aE];show (v.n::v.o).length+_<=_;rw[aE];omega
  have:=this V ho;show (V.flatMap Vk.ws).length<=120;omega
 have lJ:(jsN V).length<=40:=bH (List.length_filterMap_le _ _) hV;have lB:bt.length<=60:=by show (jsN V++W.map Wy.w).length<=60;rw[aB,ai];omega
 have lUB:(U++bt).length<=900:=by rw[aB];omega
 let UL:L4.D:=.lst (U.map D.str);have hd:∀{o:Out},(nP (sXp nI (aCons (nN oj (a1 (cFz 5))) (a1 (cS "two verbs' names are alike"))))
 (nP (sXp nI (aCons (nN oX (aCons (cL (o4 (cFz 5) (cV 7))) (a1 (cFz 3)))) (a1 (cS "a verb's, way's or joining word is a word of a thing"))))
 (nP (sXp nI (aCons (nN oX (aCons (cL (o4 (cFz 5) (cV 7))) (a1 (cC pL)))) (a1 (cS "the, a, undo or restart is a word of the world"))))
 (sXp nI (aCons (nN oX (aCons (cV 7) (a1 (cFz 5)))) (a1 (cS "a way's or joining word is a verb's name"))))))) [A,B,C,m1,s',.ls (U.map D.str),z,Z]=some o->pN (stE 8 [LD T,.lst (W.map wyD),.lst (V.map vkD)])=some o:=λ{o} q=>by
  unfold pN;refine(nJ (ρ':=[A,B,C,.ls [],.un,.un,.un,.un]) rfl).trans ?_;refine(nJ (ρ':=[A,B,C,m1,s',.un,.un,.un]) (qP ((sr (ds:=P.map tkD) (ρ1:=[A,B,C,.ls [],.un,.un,.un,.un]) ?_).trans e1))).trans ?_
  ·unfold iL;rw[p7 (n5 (g:=pM) (ds:=[LD T]) (ρ1:=[A,B,C,.ls [],.un,.un,.un,.un]) rfl (sF T (by omega)))]
  refine(nJ (ρ':=[A,B,C,m1,s',.ls [],.un,.un]) rfl).trans ?_;refine(nJ (ρ':=[A,B,C,m1,s',.ls (U.map D.str),z,.un]) (qP ((sr (ds:=V.map vkD) (ρ1:=[A,B,C,m1,s',.ls [],.un,.un]) rfl).trans e2))).trans ?_;refine(nJ (ρ':=[A,B,C,m1,s',.ls (U.map D.str),z,Z]) (qP ((o9 (p7 (qT (p7 (OJ V (by omega) rfl)) (p7 (vS wyD (λw=>.str w.w) W (ρ1:=[A,B,C,m1,s',.ls (U.map D.str),z,.un]) rfl (by omega) λw _=>⟨[.im (wyD w)],[.im (wyD w)],rfl,rfl,rfl⟩)) (by rw[ai,ai];omega)))).trans ?_))).trans q;show some (Out.nx [A,B,C,m1,s',.ls (U.map D.str),z,.im (.lst ((jsN V).map D.str++W.map λw=>.str w.w))])=_;rw[show (jsN V).map D.str++(W.map λw=>D.str w.w)=bt.map D.str by show _=(jsN V++W.map Wy.w).map D.str;rw[aY,bL];rfl]
 have x1:nN oj (a1 (cFz 5)) [A,B,C,m1,s',.ls (U.map D.str),z,Z]=some (.bl (decide U.Nodup),[A,B,C,m1,s',.im UL,z,Z]):=n5 (ds:=[UL]) rfl (yE (by omega));have ca:∀(q:Sl),cL (o4 (cFz 5) (cV 7)) [A,B,C,q,s',.im UL,z,Z]=some (.lst ((U++bt).map D.str),[A,B,C,q,s',.im UL,z,Z]):=λq=>(p7 (qT (xs:=U.map D.str) (ys:=bt.map D.str) (ρ1:=[A,B,C,q,s',.im UL,z,Z]) rfl rfl (by rw[ai,ai];omega))).trans (by rw[<-aY]);let OI:Sl:=.im (.lst (O.map D.str));have x2:nN oX (aCons (cL (o4 (cFz 5) (cV 7))) (a1 (cFz 3))) [A,B,C,m1,s',.im UL,z,Z]=some (.bl (apB (U++bt) O),[A,B,C,OI,s',.im UL,z,Z]):=n5 (nU (ca m1) (nU rfl rfl)) (yG (l:=U++bt) (m:=O) (.inl rfl) lUB);have x3:nN oX (aCons (cL (o4 (cFz 5) (cV 7))) (a1 (cC pL))) [A,B,C,OI,s',.im UL,z,Z]=some (.bl (apB (U++bt) nwL),[A,B,C,OI,s',.im UL,z,Z]):=n5 (nU (ca OI) (nU rfl rfl)) (yG (l:=U++bt) (m:=nwL) (.inr rfl) lUB);have x4:nN oX (aCons (cV 7) (a1 (cFz 5))) [A,B,C,OI,s',.im UL,z,Z]=some (.bl (apB bt U),[A,B,C,OI,s',.im UL,z,Z]):=n5 (nU rfl (nU rfl rfl)) (yG (l:=bt) (m:=U) (.inl rfl) (by omega));show _=some (decide U.Nodup&&(apB (U++bt) O&&(apB (U++bt) nwL&&apB bt U)));generalize decide U.Nodup=b1 at x1 ⊢;generalize apB (U++bt) O=b2 at x2 ⊢;generalize apB (U++bt) nwL=b3 at x3 ⊢;generalize apB bt U=b4 at x4 ⊢;cases b1 with
 |false=>exact vR rfl (hd (xc (uw x1)))
 |true=>
  cases b2 with
  |false=>exact vR rfl (hd ((nJ (oY x1)).trans (xc (uw x2))))
  |true=>
   cases b3 with
   |false=>exact vR rfl (hd ((nJ (oY x1)).trans ((nJ (oY x2)).trans (xc (uw x3)))))
   |true=>
    cases b4 with
    |false=>exact vR rfl (hd ((nJ (oY x1)).trans ((nJ (oY x2)).trans ((nJ (oY x3)).trans (uw x4)))))
    |true=>exact Bd rfl (hd ((nJ (oY x1)).trans ((nJ (oY x2)).trans ((nJ (oY x3)).trans (oY x4)))))
theorem JV(l:List L4.D)(n:Int)(h:(l.length:Int)<=n):oM [.lst l,.int n]=some (.bl true):=by refine p8 (ρ:=[.im (.lst l),.im (.int n)]) rfl ?_;exact qv ((qH rfl).trans (JP (x:=l.length) (y:=n) (oI rfl rfl) rfl h))
theorem JW(p:L4.D->Bool)(hp:∀v∈vs,o3 [v]=some (.bl (p v)))(hl:vs.length<=6):pF [.lst vs]=some (vs.all p):=by
 let ρ:List Sl:=[.im (.lst vs),.im (.bl (vs.all p))];have e:oJ 1 (qt (nN oM (aCons (cV 0) (a1 (cC tE)))) (c1 ql (cL (nZ 1 [] (iL (cV 0)) (gN 0) oQ (nN o3 (a1 (cV 0))))))) [.im (.lst vs),.un]=some (.nx ρ):=
  (o9 ((qH (n5 (ds:=[.lst vs,.int 6]) rfl (JV vs 6 (by omega)))).trans (rH id p vs (ρ1:=[.im (.lst vs),.un]) (by rw[iX];rfl) (by omega) λv hv=>⟨[.im v],[.im v],rfl,n5 rfl (hp v hv),rfl⟩))).trans rfl
 cases hb:vs.all p with
 |true=>refine Bd (ρ:=ρ) rfl ?_;unfold qZ;refine(nJ (qP e)).trans ?_;exact oY (show cV 1 ρ=some (.bl true,ρ) by show some (D.bl (vs.all p),ρ)=_;rw[hb])
 |false=>refine vR (ρ:=ρ) rfl ?_;unfold qZ;refine(nJ (qP e)).trans ?_;exact uw (show cV 1 ρ=some (.bl false,ρ) by show some (D.bl (vs.all p),ρ)=_;rw[hb])
def prD(w:Wy):L4.D:=.tup [.str w.r,.str w.w]
variable{R:List Str}
theorem El{w:Wy}(h1:w.r∈R)(h2:qV [.str w.w]=some (.bl true))(h3:w.g∈R)(h4:∀x,w.m=some x->x∈l):vM [wyD w,.lst (R.map D.str),.lst (l.map D.str)]=some (.bl true):=by
 let ρ0:List Sl:=[.im (wyD w),.im (.lst (R.map D.str)),.im (.lst (l.map D.str)),.un];let ρ:List Sl:=[.im (wyD w),.im (.lst (R.map D.str)),.im (.lst (l.map D.str)),.im (.bl true)];have on:∀{x:Str} {m:List Str},x∈m->oG [.str x,.lst (m.map D.str)]=some (.bl true):=λ{x m} h=>(BZ (d:=.str x) rfl m).trans (by show some (D.bl (decide (x∈m)))=_;rw[bc h]);refine p8 (ρ:=ρ) rfl ?_;unfold yA;refine(nJ (ρ':=ρ0) rfl).trans ?_;refine(nJ (ρ':=ρ) ((o9 (d:=.bl true) (ρ':=ρ0) ?_).trans rfl)).trans ?_
 ·cases hm:w.m with
  |none=>have e:c2 xk (c2 dIx (cV 0) (cC (.int 3))) (cC D.non) ρ0=some (.bl true,ρ0):=om (x:=.non) (y:=.non) (om (x:=wyD w) (y:=.int 3) rfl rfl (by show some (oS w.m)=_;rw[hm];rfl)) rfl rfl;unfold cOr;rw[e]
  |some x=>have e:c2 xk (c2 dIx (cV 0) (cC (.int 3))) (cC D.non) ρ0=some (.bl false,ρ0):=om (x:=.str x) (y:=.non) (om (x:=wyD w) (y:=.int 3) rfl rfl (by show some (oS w.m)=_;rw[hm];rfl)) rfl rfl;unfold cOr;rw[e];exact n5 (ds:=[.str x,.lst (l.map D.str)]) (nU (om (x:=wyD w) (y:=.int 3) rfl rfl (by show some (oS w.m)=_;rw[hm];rfl)) (nU rfl rfl)) (on (h4 x hm))
 ·exact qv ((qH (n5 (ds:=[.str w.r,.lst (R.map D.str)]) (ρ1:=ρ) rfl (on h1))).trans ((qH (n5 (ds:=[.str w.w]) (ρ1:=ρ) rfl h2)).trans ((qH (n5 (ds:=[.str w.g,.lst (R.map D.str)]) (ρ1:=ρ) rfl (on h3))).trans rfl)))
theorem Jk{W:List Wy}(hl:W.length<=10)(h:∀w∈W,w.r∈R/\qV [.str w.w]=some (.bl true)/\w.g∈R/\∀x,w.m=some x->x∈l)(hb:oj [.lst (W.map prD)]=some (.bl b)):px [.lst (W.map wyD),.lst (R.map D.str),.lst (l.map D.str)]=some b:=by
 let A:Sl:=.im (.lst (W.map wyD));let B:Sl:=.im (.lst (R.map D.str));let C:Sl:=.im (.lst (l.map D.str));let ρ:List Sl:=[A,B,C,.im (.bl true)];have e:oJ 3 (qt (nN oM (aCons (cV 0) (a1 (cC uk)))) (c1 ql (cL (nZ 1 [1,2] (iL (cV 0)) (gN 0) oQ (nN vM (aCons (cV 0) (aCons (cV 1) (a1 (cV 2))))))))) [A,B,C,.un]=some (.nx ρ):=
  (o9 ((qH (n5 (ds:=[.lst (W.map wyD),.int 10]) rfl (JV _ 10 (by rw[ai];omega)))).trans ((rH wyD (λ_=>true) W (ρ1:=[A,B,C,.un]) rfl (by omega) λw hw=>⟨[.im (wyD w),B,C],[.im (wyD w),B,C],rfl,n5 (ds:=[wyD w,.lst (R.map D.str),.lst (l.map D.str)]) rfl (El (h w hw).1 (h w hw).2.1 (h w hw).2.2.1 (h w hw).2.2.2),rfl⟩).trans (by rw[pz λ_ _=>rfl])))).trans rfl
 have ep:nN oj (a1 (cL (nZ 1 [] (iL (cV 0)) (gN 0) oQ (oP (aCons (c2 dIx (cV 0) (cC (.int 0))) (a1 (c2 dIx (cV 0) (cC (.int 1))))))))) ρ=some (.bl b,ρ):=
  n5 (nU (p7 (vS wyD prD W (ρ1:=ρ) rfl (by omega) λw _=>⟨[.im (wyD w)],[.im (wyD w)],rfl,rfl,rfl⟩)) rfl) hb
 cases b with
 |true=>refine Bd (ρ:=ρ) rfl ?_;unfold rF;refine(nJ (qP e)).trans ((nJ (oY (ρ1:=ρ) rfl)).trans ?_);exact oY ep
 |false=>refine vR (ρ:=ρ) rfl ?_;unfold rF;refine(nJ (qP e)).trans ((nJ (oY (ρ1:=ρ) rfl)).trans ?_);exact uw ep
def odD(n o f j:L4.D):L4.D:=.obj 2 ["name", "others", "form", "joining"] [n,o,f,j]
def iD:(List L4.D) ⊕ (List Vk)->List L4.D
 |.inl l=>l
 |.inr l=>l.map vkD
def mC:List ((List L4.D) ⊕ (List Vk)):=[(.inl [odD (.str "it") (.tup []) (.str "one") .non]),(.inl [odD (.str "here") (.tup []) (.str "one") .non]),(.inl [odD (.str "the") (.tup []) (.str "one") .non]),(.inl [odD (.str "a") (.tup []) (.str "one") .non]),(.inl [odD (.str "undo") (.tup []) (.str "one") .non]),(.inl [odD (.str "restart") (.tup []) (.str "one") .non]),(.inl [odD (.str "") (.tup []) (.str "one") .non]),(.inl [odD (.str "Odd") (.tup []) (.str "one") .non]),(.inl [odD (.str "ninesigns") (.tup []) (.str "one") .non]),(.inl [odD .non (.tup []) (.str "one") .non]),(.inl [odD (.int 5) (.tup []) (.str "one") .non]),(.inl [odD (.str "b2") (.tup []) (.str "one") .non]),(.inl [odD (.tup [(.str "odd")]) (.tup []) (.str "one") .non]),(.inr [⟨"take", [],"one", none⟩]),(.inr [⟨"drop", [],"one", none⟩]),(.inr [⟨"put", [],"one", none⟩]),(.inr [⟨"open", [],"one", none⟩]),(.inr [⟨"shut", [],"one", none⟩]),(.inr [⟨"light", [],"one", none⟩]),(.inr [⟨"douse", [],"one", none⟩]),(.inr [⟨"go", [],"one", none⟩]),(.inr [⟨"wait", [],"one", none⟩]),(.inr [⟨"case", [],"one", none⟩]),(.inr [⟨"candle", [],"one", none⟩]),(.inr [⟨"in", [],"one", none⟩]),(.inl [odD (.str "odd") (.tup [(.str "it")]) (.str "one") .non]),(.inl [odD (.str "odd") (.tup [(.str "here")]) (.str "one") .non]),(.inl [odD (.str "odd") (.tup [(.str "the")]) (.str "one") .non]),(.inl [odD (.str "odd") (.tup [(.str "a")]) (.str "one") .non]),(.inl [odD (.str "odd") (.tup [(.str "undo")]) (.str "one") .non]),(.inl [odD (.str "odd") (.tup [(.str "restart")]) (.str "one") .non]),(.inl [odD (.str "odd") (.tup [(.str "")]) (.str "one") .non]),(.inl [odD (.str "odd") (.tup [(.str "Odd")]) (.str "one") .non]),(.inl [odD (.str "odd") (.tup [(.str "ninesigns")]) (.str "one") .non]),(.inl [odD (.str "odd") (.tup [.non]) (.str "one") .non]),(.inl [odD (.str "odd") (.tup [(.int 5)]) (.str "one") .non]),(.inl [odD (.str "odd") (.tup [(.str "b2")]) (.str "one") .non]),(.inl [odD (.str "odd") (.tup [(.tup [(.str "odd")])]) (.str "one") .non]),(.inr [⟨"odd", ["take"],"one", none⟩]),(.inr [⟨"odd", ["drop"],"one", none⟩]),(.inr [⟨"odd", ["put"],"one", none⟩]),(.inr [⟨"odd", ["open"],"one", none⟩]),(.inr [⟨"odd", ["shut"],"one", none⟩]),(.inr [⟨"odd", ["light"],"one", none⟩]),(.inr [⟨"odd", ["douse"],"one", none⟩]),(.inr [⟨"odd", ["go"],"one", none⟩]),(.inr [⟨"odd", ["wait"],"one", none⟩]),(.inr [⟨"odd", ["case"],"one", none⟩]),(.inr [⟨"odd", ["candle"],"one", none⟩]),(.inr [⟨"odd", ["in"],"one", none⟩]),(.inr [⟨"odd", ["odd"],"one", none⟩]),(.inr [⟨"odd", ["even", "even"],"one", none⟩]),(.inr [⟨"odd", [],"one", none⟩,⟨"odd", [],"alone", none⟩]),(.inr [⟨"odd", ["even"],"one", none⟩,⟨"even", [],"one", none⟩]),(.inr [⟨"odd", ["even"],"one", none⟩,⟨"third", ["x", "even"],"one", none⟩]),(.inl [odD (.str "odd") (.lst [(.str "even")]) (.str "one") .non]),(.inl [odD (.str "odd") (.str "even") (.str "one") .non]),(.inl [odD (.str "odd") (.int 7) (.str "one") .non]),(.inl [odD (.str "odd") (.tup [(.str "x"),(.int 3)]) (.str "one") .non])]
def mF:List ((List L4.D) ⊕ (List Vk)):=[(.inl [odD (.str "odd") (.tup []) (.str "") .non]),(.inl [odD (.str "odd") (.tup []) (.str "three") .non]),(.inl [odD (.str "odd") (.tup []) .non .non]),(.inl [odD (.str "odd") (.tup []) (.str "One") .non]),(.inl [odD (.str "odd") (.tup []) (.int 2) .non]),(.inl [odD (.str "odd") (.tup []) (.str "two") .non]),(.inl [odD (.str "odd") (.tup []) (.str "ways") .non]),(.inl [odD (.str "odd") (.tup []) (.lst [(.str "one")]) .non]),(.inl [odD (.str "odd") (.tup []) (.str "alone") (.str "with")]),(.inl [odD (.str "odd") (.tup []) (.str "one") (.str "with")]),(.inl [odD (.str "odd") (.tup []) (.str "way") (.str "with")]),(.inl [odD (.str "odd") (.tup []) (.str "two") .non]),(.inl [odD (.str "odd") (.tup []) (.str "two") (.str "")]),(.inl [odD (.str "odd") (.tup []) (.str "two") (.str "the")]),(.inl [odD (.str "odd") (.tup []) (.str "two") (.str "a")]),(.inl [odD (.str "odd") (.tup []) (.str "two") (.str "With")]),(.inl [odD (.str "odd") (.tup []) (.str "two") (.str "thirteensigns")]),(.inl [odD (.str "odd") (.tup []) (.str "two") (.int 3)]),(.inl [odD (.str "odd") (.tup []) (.str "two") (.str "b2")]),(.inr [⟨"odd", [],"two", some "take"⟩]),(.inr [⟨"odd", [],"two", some "go"⟩]),(.inr [⟨"odd", [],"two", some "undo"⟩]),(.inr [⟨"odd", [],"two", some "restart"⟩]),(.inr [⟨"odd", [],"two", some "case"⟩]),(.inr [⟨"odd", [],"two", some "candle"⟩]),(.inr [⟨"odd", [],"two", some "odd"⟩]),(.inr [⟨"odd", ["even"],"two", some "even"⟩]),(.inr [⟨"north", [],"one", none⟩])]
theorem OK:qp []=some (.lst (mC.map λo=>.lst (iD o))):=by kernel_rfl
theorem OL:qq []=some (.lst (mF.map λo=>.lst (iD o))):=by kernel_rfl
def v5:List Vk:=[⟨"push", ["shove", "p"],"one", none⟩,⟨"tie", [],"two", some "to"⟩,⟨"sing", ["hum"],"alone", none⟩,⟨"swim", ["dive"],"way", none⟩,⟨"hall", ["place", "gate"],"two", some "in"⟩]
def vL(t n:Nat):List Vk:=(v5.drop t++v5.take t).take n
def Jl:List Vk:=[⟨"me", ["self", "loft"],"way", none⟩,⟨"x", ["porch", "luck"],"two", some "cellar"⟩]
def gV:List (List Vk):=((aO 5).flatMap λt=>(aO 5).map λn=>vL t n)++[Jl]
theorem OM{t n:Nat}(ht:t<5)(hn:n<5):vL t n∈gV:=aT _ (cO.mpr ⟨t,bA.mpr ht,aI.mpr ⟨n,bA.mpr hn,rfl⟩⟩)
theorem Jm:Jl∈gV:=aK _ (bg.mpr rfl)
def w2:List Wy:=[⟨"hall", "north", "hall", none⟩,⟨"hall", "up", "hall", some "gate"⟩]
def oW:List Str:=["take", "go", "undo", "restart", "case", "candle", "north"]
def oT:List Str:=["take", "wait", "in", "north", "put"]
def wO(x:Str):Wy:=⟨"hall", x,"hall", none⟩
def tO'(x:Str):Tk:=⟨.str "odd", .tup [.str "odd", .str x],.plain,.str "hall"⟩
theorem ON:pQ []=some (.lst ((oW.map λx=>.tup [.int 2,.lst [wyD (wO x)]])++oT.map λx=>.tup [.int 0,.lst [tkD (tO' x)]])):=by kernel_rfl
section
variable{O U bt:List Str}{x:Str}
theorem B4{m:List Str}(h1:x∈l)(h2:x∈m):apB l m=false:=by unfold apB;rw[bS.mpr ⟨x,h1,bc h2⟩];rfl
theorem vf1(h:¬U.Nodup):yI O U bt=false:=by unfold yI;rw[bh h];rfl
theorem vf2(h1:x∈U++bt)(h2:x∈O):yI O U bt=false:=by unfold yI;rw[B4 h1 h2,iA,dF]
theorem vf3(h1:x∈U++bt)(h2:x∈nwL):yI O U bt=false:=by unfold yI;rw[B4 h1 h2,iA,dF,dF]
theorem vf4(h1:x∈bt)(h2:x∈U):yI O U bt=false:=by unfold yI;rw[B4 h1 h2,dF,dF,dF]
end
theorem Dm:∀{l:List L4.D},(∀d∈l,∃x:Str,d=.str x)->∃l':List Str,l=l'.map D.str
 |[],_=>⟨[],rfl⟩
 |d::l,h=>by obtain⟨x,e⟩:=h d aH;obtain⟨l',e'⟩:=Dm λd hd=>h d (aM _ hd);exact⟨x::l',by rw[e,e'];rfl⟩
def OO:List Str:=pl6.flatMap dj
def twO(o:Tk):Bool:=match o.w with
 |.tup ds=>ds.all isS&&bD ds.length 4
 |_=>false
theorem OP(h:twO t=true):t.w=.tup ((tw t).map D.str)/\(tw t).length<=4:=by
 obtain⟨n,w,k,s⟩:=t;cases w with
 |tup ds=>
  have h':(ds.all isS&&bD ds.length 4)=true:=h;rw[aA]at h';refine⟨?_,?_⟩
  ·show D.tup ds=.tup ((ds.map nS).map D.str);rw[bL];refine aL D.tup ?_;have:∀l:List L4.D,l.all isS=true->l=l.map (D.str∘nS):=by
    intro l
    induction l with
    |nil=>exact λ_=>rfl
    |cons d l ih=>
     intro h;rw[cy,aA]at h;rw[aN,<- ih h.2];cases d with
     |str x=>rfl
     |_=>cases h.1
   exact this ds h'.1
  ·show (ds.map nS).length<=4;rw[ai];exact bI h'.2
 |_=>cases h
theorem JX:(plW.all λq=>twO ⟨.str q.1,q.2,.plain,.non⟩&&((tw ⟨.str q.1,q.2,.plain,.non⟩).all λx=>decide (x∈OO)))=true:=by kernel_rfl
section
variable{O T T':List Tk}(i:In O T T')
include i
theorem In.tw(h:O.all twO=true):∀t∈plN T',t.w=.tup ((K08x.tw t).map D.str)/\(K08x.tw t).length<=4:=λt ht=>by
 obtain⟨h1,h2⟩:=bz.mp ht;refine OP ?_;rcases i.mem.mp h1 with h1|h1
 ·exact aw.mp h t h1
 ·have q:=aw.mp JX _ ((i.g.wd t h1).2 h2);rw[aA]at q;exact q.1
theorem In.has(ht:t∈T)(h:t.w=.tup [.str x])(hp:t.k.pl=true):x∈(plN T').flatMap K08x.tw:=
 cO.mpr ⟨t,bz.mpr ⟨i.mem.mpr (.inr ht),hp⟩,by unfold K08x.tw;rw[h];exact aH⟩
theorem In.cases(h:x∈(["case", "candle"]:List Str)):x∈(plN T').flatMap K08x.tw:=by
 simp only[aW,dW,or_false]at h;rcases h with rfl|rfl
 ·obtain⟨t,ht,h1,h2⟩:=i.g.ca;exact i.has ht h1 h2
 ·obtain⟨t,ht,h1,h2⟩:=i.g.cd;exact i.has ht h1 h2
theorem In.hall:("hall" : Str)∈rmN T':=by obtain⟨t,ht,h1,h2⟩:=i.g.hall;rw[<-h1];exact ba (bz.mpr ⟨i.mem.mpr (.inr ht),bc h2⟩)
end
abbrev pD(T:List Tk)(W:List Wy)(V:List Vk):List L4.D:=pA (LD T) (.lst (W.map wyD)) (V.map vkD)
def Em(w:Wy):Bool:=decide (w.r="hall")&&(decide (w.g="hall")&&(isT (qV [.str w.w])&&match w.m with|none=>true|some x=>decide (x="gate")))
section
variable{O T T':List Tk}(i:In O T T')(ho:oO O=true)(ht:O.all twO=true){W:List Wy}{V:List Vk}(lW:W.length<=10)(hW:W.all Em=true)
include i ho ht lW hW
theorem In.ways(hb:oj [.lst (W.map prD)]=some (.bl b)):∃l,oF [LD T',GG]=some l/\px [.lst (W.map wyD),.lst ((rmN T').map D.str),.lst l]=some b:=by obtain⟨l,h1,h2,h3⟩:=(i.rt ho).mn;obtain⟨l',rfl⟩:=Dm h3;refine⟨_,h1,Jk lW (λw hw=>?_) hb⟩;have q:=aw.mp hW w hw;unfold Em at q;simp only[aA]at q;refine⟨by rw[bG q.1];exact i.hall,vd q.2.2.1,by rw[bG q.2.1];exact i.hall,λx hx=>?_⟩;have q4:=q.2.2.2;rw[hx]at q4;obtain⟨x',h',e'⟩:=aI.mp h2;cases e';rw[bG q4];exact h'
theorem In.parts(hb:oj [.lst (W.map prD)]=some (.bl true))(lV:V.length<=6)(hv:(V.all λv=>isT (o3 [vkD v]))=true)(hv2:(V.all λv=>bD v.o.length 2)=true):oR (pD T' W V)=some (yI ((plN T').flatMap K08x.tw) ((V++k9).flatMap Vk.ws) (jsN (V++k9)++W.map Wy.w)):=by
 obtain⟨l,h1,h2⟩:=i.ways ho ht lW hW hb;have cv:pF [.lst (V.map vkD)]=some true:=by
  refine(JW (λd=>isT (o3 [d])) (λv h=>?_) (by rw[ai];exact lV)).trans ?_
  ·obtain⟨u,hu,rfl⟩:=aI.mp h;rw[vd (aw.mp hv u hu)];rfl
  ·rw[fR];exact aL some hv
 refine Gs (i.rt ho) h1 h2 cv (by rw[ai];omega) ?_;rw[JU,<- aY];refine Gy (i.rt ho).l (i.tw ht) (by omega) ?_ λv h=>?_
 ·rw[aB];show V.length+9<=40;omega
 ·rcases aZ.mp h with h|h
  ·exact bI (aw.mp hv2 v h)
  ·exact bI (aw.mp (show (k9.all λv=>bD v.o.length 2)=true by rfl) v h)
end
theorem Nh{l m:List Vk}(h:l.Sublist m):(l.flatMap Vk.ws).Sublist (m.flatMap Vk.ws):=by
 induction h with
 |slnil=>exact .slnil
 |cons a h ih=>rw[eD];exact ih.trans (je _ _)
 |cons_cons a h ih=>rw[eD,eD];exact(gh _).append ih
def cA(l:List L4.D):Bool:=bD l.length 2&&(l.all (λv=>isB (o3 [v]))&&!l.all (λv=>isT (o3 [v])))
def cK'(K:List Vk):Bool:=bD K.length 2&&((K.all λv=>isT (o3 [vkD v]))&&((K.all λv=>bD v.o.length 2)&&(!decide ((K++k9).flatMap Vk.ws).Nodup||(((K.flatMap Vk.ws++jsN K).any λx=>decide (x∈(["case", "candle"]:List Str)))||(((K.flatMap Vk.ws++jsN K).any λx=>decide (x∈nwL))||(((K.flatMap Vk.ws).any λx=>decide (x∈(["in", "north", "up"]:List Str)))||(jsN K).any λx=>decide (x∈(K++k9).flatMap Vk.ws)))))))
def cI:(List L4.D) ⊕ (List Vk)->Bool
 |.inl l=>cA l
 |.inr K=>cK' K
theorem Pj:mC.all cI=true:=by kernel_rfl
theorem Pk:mF.all cI=true:=by kernel_rfl
theorem zB:(gV.all λV=>bD V.length 4&&((V.all λv=>isT (o3 [vkD v]))&&(V.all λv=>bD v.o.length 2)))=true:=by kernel_rfl
theorem Bk:w2.all Em=true:=by kernel_rfl
theorem Dn:oj [.lst (w2.map prD)]=some (.bl true):=by kernel_rfl
theorem o0:oO []=true:=by kernel_rfl
theorem xC(g:Good T):In [] T T:=⟨g,List.Perm.refl _,by decide⟩
section
variable{T:List Tk}(g:Good T){V:List Vk}(hV:V∈gV)
include g hV
theorem OQ(a:Nat){q:(List L4.D) ⊕ (List Vk)}(hq:cI q=true):oe [LD T,.lst (w2.map wyD),.lst ((V.map vkD).take a++iD q++(V.map vkD).drop a)]=some (.bl true):=by
 have i:=xC g;have v0:=aw.mp zB V hV;simp only[aA]at v0;obtain⟨v1,v2,v3⟩:=v0;have v1:=bI v1;refine refused ?_;obtain⟨l,h1,h2⟩:=i.ways o0 rfl (W:=w2) (by decide) Bk Dn;have lt:(V.take a).length+(V.drop a).length=V.length:=by rw[bp,cp];omega
 cases q with
 |inl l'=>
  have c:cA l'=true:=hq;unfold cA at c;simp only[aA,c7]at c;obtain⟨c1,c2,c3⟩:=c;have c1:=bI c1;refine Gr (i.rt o0) h1 h2 ((JW (λd=>isT (o3 [d])) (λv h=>?_) ?_).trans ?_)
  ·have hV':v∈V.map vkD->o3 [v]=some (.bl (isT (o3 [v]))):=λh=>by obtain⟨u,hu,rfl⟩:=aI.mp h;rw[vd (aw.mp v2 u hu)];rfl
   rcases aZ.mp h with h|h
   ·rcases aZ.mp h with h|h
    ·exact hV' (fB h)
    ·exact Ah (aw.mp c2 v h)
   ·exact hV' (fA h)
  ·rw[aB,aB,bp,cp,ai];show min a V.length+l'.length+(V.length - a)<=6;omega
  ·obtain⟨v,hv,e⟩:=Gx c3;exact aL some (M5 (p:=λd=>isT (o3 [d])) (aT _ (aK _ hv)) e)
 |inr K=>
  have c:cK' K=true:=hq;unfold cK' at c;simp only[aA,dZ,c7,decide_eq_false_iff_not]at c;obtain⟨c1,c2,c3,c4⟩:=c;have c1:=bI c1;let V':List Vk:=V.take a++K++V.drop a;have eV:(V.map vkD).take a++iD (.inr K)++(V.map vkD).drop a=V'.map vkD:=by show _=(V.take a++K++V.drop a).map vkD;rw[aY,aY,eL,fN];rfl
  rw[eV];have aV:∀p:Vk->Bool,V.all p=true->K.all p=true->V'.all p=true:=λp h h'=>pz λv hv=>by
   rcases aZ.mp hv with hv|hv
   ·rcases aZ.mp hv with hv|hv
    ·exact aw.mp h v (fB hv)
    ·exact aw.mp h' v hv
   ·exact aw.mp h v (fA hv)
  have lV':V'.length<=6:=by show (V.take a++K++V.drop a).length<=6;rw[aB,aB];omega
  refine(i.parts o0 rfl (W:=w2) (V:=V') (by decide) Bk Dn lV' (aV _ v2 c2) (aV _ v3 c3)).trans (aL some ?_);have sub:(K++k9).Sublist (V'++k9):=by show (K++k9).Sublist ((V.take a++K++V.drop a)++k9);refine nq ?_ (gh _);exact(je (V.take a) K).trans (List.sublist_append_left _ _)
  have mU:∀x∈(K++k9).flatMap Vk.ws,x∈(V'++k9).flatMap Vk.ws:=λx hx=>by obtain⟨v,hv,h⟩:=cO.mp hx;exact cO.mpr ⟨v,sub.subset hv,h⟩
  have mK:∀x∈K.flatMap Vk.ws,x∈(K++k9).flatMap Vk.ws:=λx hx=>by obtain⟨v,hv,h⟩:=cO.mp hx;exact cO.mpr ⟨v,aT _ hv,h⟩
  have mJ:∀x∈jsN K,x∈jsN (V'++k9)++w2.map Wy.w:=λx hx=>by obtain⟨v,hv,h⟩:=cN.mp hx;exact aT _ (cN.mpr ⟨v,sub.subset (aT _ hv),h⟩)
  have mA:∀x∈K.flatMap Vk.ws++jsN K,x∈(V'++k9).flatMap Vk.ws++(jsN (V'++k9)++w2.map Wy.w):=λx hx=>by
   rcases aZ.mp hx with hx|hx
   ·exact aT _ (mU x (mK x hx))
   ·exact aK _ (mJ x hx)
  have mB:∀x∈(["in", "north", "up"]:List Str),x∈jsN (V'++k9)++w2.map Wy.w:=λx hx=>by
   simp only[aW,dW,or_false]at hx;rcases hx with rfl|rfl|rfl
   ·exact aT _ (cN.mpr ⟨⟨"put", [],"two", some "in"⟩,aK _ (by simp[k9]),rfl⟩)
   ·exact aK _ aH
   ·exact aK _ (aM _ aH)
  rcases c4 with c4|c4|c4|c4|c4
  ·exact vf1 λnd=>c4 (nd.sublist (Nh sub))
  ·obtain⟨x,hx,e⟩:=bS.mp c4;exact vf2 (mA x hx) (i.cases (bG e))
  ·obtain⟨x,hx,e⟩:=bS.mp c4;exact vf3 (mA x hx) (bG e)
  ·obtain⟨x,hx,e⟩:=bS.mp c4;exact vf4 (mB x (bG e)) (mU x (mK x hx))
  ·obtain⟨x,hx,e⟩:=bS.mp c4;exact vf4 (mJ x hx) (mU x (bG e))
end
theorem OR:(oT.all λx=>oO [tO' x]&&(twO (tO' x)&&decide (x∈k9.flatMap Vk.ws++(["in", "north", "up"]:List Str))))=true:=by kernel_rfl
def cW(a:Nat)(x:Str):List Wy:=w2.take a++[wO x]++w2.drop a
theorem OS:(oW.all λx=>Em (wO x)&&(decide (x="north")||(decide (x∈k9.flatMap Vk.ws)||(decide (x∈nwL)||decide (x∈(["case", "candle"]:List Str))))))=true:=by kernel_rfl
theorem OT:((aO 3).all λa=>oW.all λx=>match oj [.lst ((cW a x).map prD)]with|some (.bl b)=>b==!decide (x="north")|_=>false)=true:=by kernel_rfl
theorem Ni:(gV.all λV=>decide ((V++k9).flatMap Vk.ws).Nodup&&(apB ((V++k9).flatMap Vk.ws++(jsN (V++k9)++w2.map Wy.w)) OO&&(apB ((V++k9).flatMap Vk.ws++(jsN (V++k9)++w2.map Wy.w)) nwL&&apB (jsN (V++k9)++w2.map Wy.w) ((V++k9).flatMap Vk.ws))))=true:=by kernel_rfl
theorem in9{V:List Vk}(h:x∈k9.flatMap Vk.ws):x∈(V++k9).flatMap Vk.ws:=by obtain⟨v,hv,h⟩:=cO.mp h;exact cO.mpr ⟨v,aK _ hv,h⟩
theorem inB{V:List Vk}(hx:x∈(["in", "north", "up"]:List Str)):x∈jsN (V++k9)++w2.map Wy.w:=by
 simp only[aW,dW,or_false]at hx;rcases hx with rfl|rfl|rfl
 ·exact aT _ (cN.mpr ⟨⟨"put", [],"two", some "in"⟩,aK _ (by simp[k9]),rfl⟩)
 ·exact aK _ aH
 ·exact aK _ (aM _ aH)
section
variable{T:List Tk}(g:Good T){V:List Vk}(hV:V∈gV)
include g hV
theorem OU(a:Nat)(hx:x∈oT):oe [.lst ((T.map tkD).take a++[tkD (tO' x)]++(T.map tkD).drop a),.lst (w2.map wyD),.lst (V.map vkD)]=some (.bl true):=by
 have v0:=aw.mp zB V hV;simp only[aA]at v0;obtain⟨v1,v2,v3⟩:=v0;have v1:=bI v1;have q:=aw.mp OR x hx;simp only[aA]at q;obtain⟨q1,q2,q3⟩:=q;have q3:=bG q3;let T':List Tk:=T.take a++[tO' x]++T.drop a;have e:(T.map tkD).take a++[tkD (tO' x)]++(T.map tkD).drop a=T'.map tkD:=by show _=(T.take a++[tO' x]++T.drop a).map tkD;rw[aY,aY,eL,fN];rfl
 have p:T'.Perm ([tO' x]++T):=by have z:=List.perm_append_comm_assoc (T.take a) [tO' x] (T.drop a);rw[gZ]at z;show (T.take a++[tO' x]++T.drop a).Perm _;rw[bJ];exact z
 have i:In [tO' x] T T':=⟨g,p,aC 1⟩;rw[e];have ht:[tO' x].all twO=true:=by rw[cy,q2];rfl
 refine refused ((i.parts q1 ht (W:=w2) (V:=V) (by decide) Bk Dn (by omega) v2 v3).trans (aL some (vf2 (x:=x) ?_ ?_)))
 ·rcases aZ.mp q3 with h|h
  ·exact aT _ (in9 h)
  ·exact aK _ (inB h)
 ·exact cO.mpr ⟨tO' x,bz.mpr ⟨i.mem.mpr (.inl (bg.mpr rfl)),rfl⟩,aM _ aH⟩
theorem OV{a:Nat}(ha:a<3)(hx:x∈oW):oe [LD T,.lst ((w2.map wyD).take a++[wyD (wO x)]++(w2.map wyD).drop a),.lst (V.map vkD)]=some (.bl true):=by
 have v0:=aw.mp zB V hV;simp only[aA]at v0;obtain⟨v1,v2,v3⟩:=v0;have v1:=bI v1;have i:=xC g;have q:=aw.mp OS x hx;simp only[aA,dZ,bF]at q;have e:(w2.map wyD).take a++[wyD (wO x)]++(w2.map wyD).drop a=(cW a x).map wyD:=by unfold cW;rw[aY,aY,eL,fN];rfl
 rw[e];have hW:(cW a x).all Em=true:=pz λw hw=>by
  have h2:∀w∈w2,Em w=true:=λw h=>aw.mp Bk w h;rcases aZ.mp hw with hw|hw
  ·rcases aZ.mp hw with hw|hw
   ·exact h2 w (fB hw)
   ·rw[bg.mp hw];exact q.1
  ·exact h2 w (fA hw)
 have lW:(cW a x).length<=10:=by unfold cW;rw[aB,aB,bp,cp];show min a 2+1+(2 - a)<=10;omega
 have u:=aw.mp (aw.mp OT a (bA.mpr ha)) x hx;have u':oj [.lst ((cW a x).map prD)]=some (.bl (!decide (x="north"))):=by
  split at u
  ·rename_i b eb;rw[eb,beq_iff_eq.mp u]
  ·cases u
 by_cases hn:x="north"
 ·rw[bc hn]at u';obtain⟨l,h1,h2⟩:=i.ways o0 rfl lW hW u';exact refused (Jh (i.rt o0) h1 h2)
 ·rw[bh hn]at u';have mx:x∈jsN (V++k9)++(cW a x).map Wy.w:=aK _ (aI.mpr ⟨wO x,aT _ (aK _ (bg.mpr rfl)),rfl⟩);refine refused ((i.parts o0 rfl (W:=cW a x) (V:=V) lW hW u' (by omega) v2 v3).trans (aL some ?_));rcases q.2 with q|q|q|q
  ·exact ak q hn
  ·exact vf4 mx (in9 q)
  ·exact vf3 (aK _ mx) q
  ·exact vf2 (aK _ mx) (i.cases q)
theorem B5:oR (pD T w2 V)=some true:=by have v0:=aw.mp zB V hV;simp only[aA]at v0;obtain⟨v1,v2,v3⟩:=v0;have v1:=bI v1;have i:=xC g;refine(i.parts o0 rfl (W:=w2) (V:=V) (by decide) Bk Dn (by omega) v2 v3).trans (aL some ?_);have q:=aw.mp Ni V hV;simp only[aA]at q;obtain⟨q1,q2,q3,q4⟩:=q;unfold yI;rw[q1,q3,q4];simp only[kP,kN];unfold apB at q2 ⊢;rw[c7,fH]at q2 ⊢;intro z;obtain⟨x,hx,e⟩:=bS.mp z;refine q2 (bS.mpr ⟨x,hx,bc ?_⟩);obtain⟨t,ht,h⟩:=cO.mp (bG e);obtain⟨h1,h2⟩:=bz.mp ht;have w:=aw.mp JX _ ((g.wd t h1).2 h2);rw[aA]at w;exact bG (aw.mp w.2 x h)
end
theorem B6(hl:T.length<=900)(hn:∀t∈T,t.n=.str t.m)(nd:(T.map Tk.m).Nodup):wo [LD T]=some (.dic (nK T) (T.map tkD)):=by
 obtain⟨s',e1⟩:=wx (g:=gN 2) (i:=1) (fk:=c1 (n9 n8 "name") (cV 2)) (fv:=cV 2) tkD Tk.m tkD (λks ds s=>[.im (LD T),.dk ks ds,s]) T
  (λt ht ks ds s=>⟨[.im (LD T),.dk ks ds,.im (tkD t)],rfl,rfl,rfl,oI rfl ((sE t).trans (by rw[hn t ht])),λks' ds'=>⟨_,rfl⟩⟩) T [] [] .un (λ_ h=>h) (by rw[cu];exact Di nd) (by simp;omega) rfl
 refine p8 (ρ:=[.im (LD T),.im (.dic (nK T) (T.map tkD)),s']) rfl ?_;unfold wm;refine(nJ (ρ':=[.im (LD T),.dk [] [],.un]) rfl).trans ?_;refine(nJ ((sr rfl).trans e1)).trans ?_;rw[cu,cu];rfl
theorem wz{a b e:Sl}:∀(l:List Tk) (ks:List Key) (ds:List L4.D) (s:Sl),(∀t∈l,t.n=.str t.m)->(ks++l.map λt=>kS t.m).Nodup->ks.length+l.length<=900->ds.length=ks.length->
  ∃(ks':List Key) (ds':List L4.D) (s':Sl),(∀k∈ks',k∈ks++l.map λt=>kS t.m)/\ks'.length<=ks.length+l.length/\ds'.length=ks'.length/\forL (gN 3) (sIf (cT (qz pI "has_mark" (cV 3) ox)) (qU 2 (c1 (n9 n8 "name") (cV 3)) (cC (.int 1))) pG) (l.map tkD) [a,b,.dk ks ds,s,e]=some (.nx [a,b,.dk ks' ds',s',e])
 |[],ks,ds,s,_,_,_,he=>⟨ks,ds,s,λk h=>aT _ h,aC _,he,rfl⟩
 |t::l,ks,ds,s,hn,nd,hl,he=>by
  rw[aE]at hl;let ρ:List Sl:=[a,b,.dk ks ds,.im (tkD t),e];have em:cT (qz pI "has_mark" (cV 3) ox) ρ=some (t.k.mk,ρ):=wc (uB (xs:=[t.n,t.w,.str t.k.s,t.s]) (ys:=[]) rfl rfl rfl rfl (De t));have hn':∀u∈l,u.n=.str u.m:=λu hu=>hn u (aM _ hu);rw[aN]at nd;have nd1:((ks++[kS t.m])++l.map λt=>kS t.m).Nodup:=by rw[bJ];exact nd
  have nd2:(ks++l.map λt=>kS t.m).Nodup:=nd.sublist ((gh _).append (List.sublist_cons_self _ _));rw[aN,aN];unfold forL;rw[show gN 3 (tkD t) [a,b,.dk ks ds,s,e]=some ρ from rfl];cases hm:t.k.mk with
  |true=>
   rw[hm]at em;have hk:kS t.m∉ks:=λz=>by rw[bO]at nd;exact nd.2.2 _ z _ aH rfl
   obtain⟨ks',ds',s',h1,h2,h3,q⟩:=wz (a:=a) (b:=b) (e:=e) l (ks++[kS t.m]) (ds++[.int 1]) (.im (tkD t)) hn' nd1 (by rw[aB,bY];omega) (by simp[he]);rw[aB,bY]at h2;refine⟨ks',ds',s',λk h=>?_,by rw[aE];omega,h3,?_⟩
   ·have:=h1 k h;rw[bJ]at this;exact this
   simp only[(sZ em).trans (yF (i:=2) (fk:=c1 (n9 n8 "name") (cV 3)) (fv:=cC (.int 1)) (ρ:=ρ) (x:=t.m) rfl rfl (oI rfl ((sE t).trans (by rw[hn t aH]))) hk (by omega) he)];exact q
  |false=>
   rw[hm]at em;obtain⟨ks',ds',s',h1,h2,h3,q⟩:=wz (a:=a) (b:=b) (e:=e) l ks ds (.im (tkD t)) hn' nd2 (by omega) he;refine⟨ks',ds',s',λk h=>?_,by rw[aE];omega,h3,?_⟩
   ·rcases aZ.mp (h1 k h)with z|z
    ·exact aT _ z
    ·exact aK _ (aM _ z)
   simp only[rE em,pG];exact q
theorem GA(hl:T.length<=100)(hn:∀t∈T,t.n=.str t.m)(nd:(T.map Tk.m++gL).Nodup):∃d,rq [LD T,GD']=some d:=by
 obtain⟨n1,n2,n3⟩:=bO.mp nd;obtain⟨ks,ds,s1,h1,h2,h3,e1⟩:=wz (a:=.im (LD T)) (b:=.im GD') (e:=.un) T [] [] .un hn (by rw[cu];exact Di n1) (by simp;omega) rfl;have hk:kS "gate" ∉ ks:=λz=>by have:=h1 _ z;rw[cu]at this;obtain⟨t,ht,e⟩:=aI.mp this;exact n3 _ (ba ht) _ (bg.mpr rfl) (M6 e)
 rw[dE]at h2;refine⟨.dic (ks++[kS "gate"]) (ds++[.int 1]),p8 (ρ:=[.im (LD T),.im GD',.im (.dic (ks++[kS "gate"]) (ds++[.int 1])),s1,.im (mkD gt)]) rfl ?_⟩;unfold rp;refine(nJ (ρ':=[.im (LD T),.im GD',.dk [] [],.un,.un]) rfl).trans ?_;refine(nJ ((sr rfl).trans e1)).trans ?_;have e2:forL (gN 4) (qU 2 (c1 (n9 n8 "name") (cV 4)) (c1 (n9 rS "most") (cV 4))) [mkD gt] [.im (LD T),.im GD',.dk ks ds,s1,.un]=some (.nx [.im (LD T),.im GD',.dk (ks++[kS "gate"]) (ds++[.int 1]),s1,.im (mkD gt)]):=by unfold forL;rw[show gN 4 (mkD gt) [.im (LD T),.im GD',.dk ks ds,s1,.un]=some [.im (LD T),.im GD',.dk ks ds,s1,.im (mkD gt)] from rfl];simp only[yF (i:=2) (fk:=c1 (n9 n8 "name") (cV 4)) (fv:=c1 (n9 rS "most") (cV 4)) (ρ:=[.im (LD T),.im GD',.dk ks ds,s1,.im (mkD gt)]) (x:="gate") (d:=.int 1) rfl rfl rfl hk (by omega) h3];rfl
 exact(nJ ((sr rfl).trans e2)).trans rfl
theorem Nj(g:Good T)(ns:List Str)(rest:List L4.D):∃d,rA [.obj 14 ("kept_things" ::ns) (LD T::rest),.str "you"]=some (.lst [.str d]):=by let ρ:List Sl:=[.im (.obj 14 ("kept_things" ::ns) (LD T::rest)),.im (.str Kd.you.s)];have y:=g.y1;unfold cK at y;obtain⟨t,et⟩:=List.length_eq_one_iff.mp y;have ht:t∈T:=(bz.mp (show t∈T.filter λt=>decide (t.k=.you) by rw[et];exact bg.mpr rfl)).1;refine⟨t.m,(F5 (ρ:=ρ) rfl (uA (ux tkD Tk.n (λt=>decide (t.k=.you)) T (ρ1:=ρ) rfl (by have:=g.len;omega) λt _=>⟨[.im (tkD t),.im (.str Kd.you.s)],[.im (tkD t),.im (.str Kd.you.s)],rfl,wc (om (oI rfl (wu t)) rfl (zx t.k .you)),λ_=>⟨_,oI rfl (sE t),rfl⟩,λ_=>rfl⟩))).trans ?_⟩;rw[et];show some (D.lst [t.n])=_;rw[(g.nm t ht).1]
variable{ns:List Str}
theorem JY{r:List Sl}{r':List Sl}(h1:e (.im (.obj 14 ns ds)::r.map tp)=some (d,r'))(h2:noC 15 14 d=true):uJ 15 e (.ob 14 ns ds::r)=some (d,.ob 14 ns ds::r):=by unfold uJ;simp only[h1,h2];rfl
theorem Do{nm:Str}{r:List Sl}(h1:e (.ob 14 ns ds::r)=some (d,.ob 14 ns ds::r))(h2:ns.contains nm=false)(h3:ds.length=ns.length)(h4:ns.length<900):oA 14 0 nm e (.ob 14 ns ds::r)=some (.nx (.ob 14 (ns++[nm]) (ds++[d])::r)):=by unfold oA;rw[h1];simp only[ji,h2,h3,h4,if_true,fD,if_false];rfl
def wNs:List Str:=["kept_things", "kept_marks", "kept_dark", "kept_ways", "kept_verbs", "shared_verbs", "your_name", "things_by_name", "mosts_by_name", "verbs_by_word", "kept_rules", "shared_rules", "copied_rules", "rules_by_verb"]
def WL:L4.D:=.lst (w2.map wyD)
def shL(y:Str):List L4.D:=(rX [.str y,WL]).getD []
def bvD(y:Str):L4.D:=(wq [.lst (shL y)]).getD .non
def vwD(V:List Vk):L4.D:=(pV [.lst ((V++k9).map vkD)]).getD .non
theorem Nk:(gV.all λV=>match pV [.lst ((V++k9).map vkD)]with|some d=>noC 15 14 d|none=>false)=true:=by kernel_rfl
theorem OW{V:List Vk}(h:V∈gV):pV [.lst ((V++k9).map vkD)]=some (vwD V)/\noC 15 14 (vwD V)=true:=by
 have q:=aw.mp Nk V h;unfold vwD;split at q
 ·rename_i d e;rw[e];exact⟨rfl,q⟩
 ·cases q
def wA(d:L4.D)(V:List Vk)(y:Str)(d8 d9:L4.D):List L4.D:=[d,GG,.lst [],WL,.lst (V.map vkD),.lst v9,.str y,d8,d9,vwD V,.lst [],.lst (shL y),.lst [],bvD y]
def wS(d:L4.D)(V:List Vk)(y:Str)(d8 d9:L4.D)(q:Sl)(k:Nat):List Sl:=[.ob 14 (wNs.take k) ((wA d V y d8 d9).take k),.im d,.im GG,.im (.lst []),.im WL,.im (.lst (V.map vkD)),.im (.lst []),q]
theorem GB(g:Good T){V:List Vk}(hV:V∈gV):∃q,pP [LD T,GG,.lst [],WL,.lst (V.map vkD),.lst []]=some (some q):=by
 have i:=xC g;have hn:nO []=true:=by kernel_rfl
 obtain⟨n1,n2,n3⟩:=i.names hn;have hl:=g.len;have lV:V.length<=4:=by have v0:=aw.mp zB V hV;simp only[aA]at v0;exact bI v0.1
 obtain⟨d9,e9⟩:=GA (T:=T) (by omega) n3 (i.nd hn);obtain⟨y,ey⟩:=Nj g (wNs.tail.take 5) [GG,.lst [],WL,.lst (V.map vkD),.lst v9];have e8:=B6 (T:=T) (by omega) n3 n2;generalize ed8:D.dic (nK T) (T.map tkD)=d8 at e8;obtain⟨ew,nw⟩:=OW hV;have av:qK [.obj 14 (wNs.take 9) ((wA (LD T) V y d8 d9).take 9)]=some (.lst ((V++k9).map vkD)):=by refine F5 (ρ:=[.im (.obj 14 (wNs.take 9) ((wA (LD T) V y d8 d9).take 9))]) rfl (uA ((qT (xs:=V.map vkD) (ys:=v9) (ρ1:=[.im (.obj 14 (wNs.take 9) ((wA (LD T) V y d8 d9).take 9))]) (ρ2:=[.im (.obj 14 (wNs.take 9) ((wA (LD T) V y d8 d9).take 9))]) rfl rfl (by rw[ai];show V.length+9<=1000;omega)).trans ?_));rw[JU,<- aY]
 let S:=wS (LD T) V y d8 d9;let B:Sl:=.im (.bl true);have e:pO (S .un 0)=some (.nx (S B 14)):=by unfold pO;refine(nJ (ρ':=S .un 0) (wt (ds:=pD T w2 V) (nU rfl (nU rfl (nU rfl (nU rfl (nU rfl (nU (p7 (n5 (ds:=[]) rfl JQ)) rfl)))))) (B5 g hV))).trans ?_;refine(nJ (ρ':=S .un 1) (by kernel_rfl)).trans ((nJ (ρ':=S .un 2) (by kernel_rfl)).trans ((nJ (ρ':=S .un 3) (by kernel_rfl)).trans ((nJ (ρ':=S .un 4) (by kernel_rfl)).trans ((nJ (ρ':=S .un 5) (by kernel_rfl)).trans ((nJ (ρ':=S .un 6) (by kernel_rfl)).trans ?_)))));refine(nJ (ρ':=S .un 7) (qP (Do (r:=(S .un 6).tail) (JY (d:=.str y) (r':=(.im (.obj 14 (wNs.take 6) ((wA (LD T) V y d8 d9).take 6)))::((S .un 6).tail).map tp) (om (x:=.lst [.str y]) (uB (xs:=(wA (LD T) V y d8 d9).take 6) (ys:=[.str "you"]) (hh:=rA) rfl rfl rfl rfl ey) rfl rfl) rfl) rfl rfl (by decide)))).trans ?_;refine(nJ (ρ':=S .un 8) (qP (Do (r:=(S .un 7).tail) (n5 (ds:=[LD T]) rfl e8) rfl rfl (by decide)))).trans ?_;refine(nJ (ρ':=S .un 9) (qP (Do (r:=(S .un 8).tail) (n5 (ds:=[LD T,GG]) rfl e9) rfl rfl (by decide)))).trans ?_;refine(nJ (ρ':=S .un 10) (qP (Do (r:=(S .un 9).tail) (JY (r':=(.im (.obj 14 (wNs.take 9) ((wA (LD T) V y d8 d9).take 9)))::((S .un 9).tail).map tp) (n5 (ds:=[.lst ((V++k9).map vkD)]) (nU (uB (xs:=(wA (LD T) V y d8 d9).take 9) (ys:=[]) (hh:=qK) rfl rfl rfl rfl av) rfl) ew) nw) rfl rfl (by decide)))).trans ?_;refine(nJ (ρ':=S B 10) (by kernel_rfl)).trans ((nJ (ρ':=S B 10) (by kernel_rfl)).trans ((nJ (ρ':=S B 11) (by kernel_rfl)).trans ((nJ (ρ':=S B 12) (by kernel_rfl)).trans ((nJ (ρ':=S B 13) (by kernel_rfl)).trans ?_))));kernel_rfl
 have e':pO (stI 14 8 [LD T,GG,.lst [],WL,.lst (V.map vkD),.lst []])=some (.nx (S B 14)):=e;refine⟨(wNs,wA (LD T) V y d8 d9),?_⟩;unfold pP fnXI;rw[ag (show [LD T,GG,.lst [],WL,.lst (V.map vkD),.lst []].length=6 from rfl),e'];dsimp only;unfold fnI;rw[ag (show [LD T,GG,.lst [],WL,.lst (V.map vkD),.lst []].length=6 from rfl),e'];rfl
theorem Dp(g:Good T){V:List Vk}(hV:V∈gV):oe [LD T,WL,.lst (V.map vkD)]=some (.bl false):=by obtain⟨q,e⟩:=GB g hV;exact Na e
theorem GE(h:uX es):∃t n es',t<5/\n<5/\tI es []=some (.lst ((vL t n).map vkD),es')/\uX es':=by
 let Q:Sl:=.im (.lst (v5.map vkD));obtain⟨d,e1,x1,p0,p1,h1⟩:=dgx (i:=0) (b:=5) (a:=cC (.int 5)) (λes=>[.pm es,Q,.un]) (λ_=>rfl) (λ_ _=>rfl) rfl h (by decide) (by decide);obtain⟨t,rfl⟩:=cH p0;let X:Sl:=.im (.int (t:Nat));obtain⟨d2,e2,x2,q0,q1,h2⟩:=dgx (i:=0) (b:=5) (a:=cC (.int 5)) (λes=>[.pm es,Q,X]) (λ_=>rfl) (λ_ _=>rfl) rfl h1 (by decide) (by decide);obtain⟨n,rfl⟩:=cH q0;refine⟨t,n,e2,by omega,by omega,FC (ρ:=[.pm e2,Q,X]) rfl ?_ rfl,h2⟩;unfold tH;refine(nJ (ρ':=[.pm es,.im (.lst ((v5.take 3).map vkD)),.un]) (by kernel_rfl)).trans ((nJ (ρ':=[.pm es,Q,.un]) (by kernel_rfl)).trans ((nJ ((o9 x1).trans rfl)).trans (uA ?_)));have l6:(v5.map vkD).length=5:=rfl;have c1:cL (tm (cV 1) (oAt (cV 2)) oNo) [.pm e1,Q,X]=some (.lst ((v5.map vkD).drop t),[.pm e1,Q,X]):=p7 (by
  show some (cutD (v5.map vkD) (some (t:Int)) none,_)=_;rw[Gv t (by omega)])
 have c2:cL (tm (cV 1) oNo (oAt (cV 2))) [.pm e1,Q,X]=some (.lst ((v5.map vkD).take t),[.pm e1,Q,X]):=p7 (by
  show some (cutD (v5.map vkD) none (some (t:Int)),_)=_;rw[Ai t (by omega)])
 have ll:((v5.map vkD).drop t).length+((v5.map vkD).take t).length=5:=by rw[cp,bp,l6];omega
 refine(Aj (p7 (qT c1 c2 (by omega))) rfl (Gw x2)).trans ?_;show some (cutD ((v5.map vkD).drop t++(v5.map vkD).take t) none (some (n:Int)),_)=_;have e:(vL t n).map vkD=((v5.map vkD).drop t++(v5.map vkD).take t).take n:=by unfold vL;rw[eL,aY,fN,eL]
 rw[e];rw[Ai n (by rw[aB];omega)]
theorem Dr(ns:List Int)(k:Nat):∃c,qf [.fzl (ns.map D.int),.int k]=some (.int c):=by
 let ρ:List Sl:=[.im (.fzl (ns.map D.int)),.im (.int k)];have ev:cT (c2 Ig (cV 1) (c1 p6 (cV 0))) ρ=some (decide ((k:Int)<((ns.map D.int).length:Nat)),ρ):=rfl;rw[ai]at ev;by_cases h:k<ns.length
 ·rw[bc (by omega)]at ev;refine⟨ns[k],p8 (ρ:=ρ) rfl (rL ((sZ ev).trans (qv (om (x:=.fzl (ns.map D.int)) (y:=.int k) rfl rfl ?_))))⟩;exact sd (by rw[bb,aS h];rfl)
 ·rw[bh (by omega)]at ev;exact⟨0,p8 (ρ:=ρ) rfl ((nJ ((rE ev).trans rfl)).trans rfl)⟩
def menu:List L4.D:=((mC++mF).map λo=>.tup [.int 1,.lst (iD o)])++((oW.map λx=>.tup [.int 2,.lst [wyD (wO x)]])++oT.map λx=>.tup [.int 0,.lst [tkD (tO' x)]])
theorem GF:menu.length=99:=by kernel_rfl
def lB:FS:=(nP (oJ 7 (nN qf (aCons (cV 0) (a1 (cV 6)))))
 (nP (yN (c2 dIx (cV 5) (c2 qk (c2 qA (cV 7) (c2 rQ (cC (.int 7)) (cV 6))) (c1 p6 (cV 5)))) (gT (rP (gN 8) (rP (gN 9) y9)) 2))
 (nP (qN 10 (n6 (aCons (cV 2) (aCons (cV 4) (a1 (cV 3))))))
 (nP (oJ 11 (sm (c2 qk (c2 tK (cV 7) (c1 p6 (cV 5))) (c2 qA (c1 p6 (c2 dIx (cV 10) (cV 8))) (cC (.int 1))))))
 (nP (sIxPut 10 8 (cL (o4 (cL (o4 (cL (tm (tT 10 (cV 8)) oNo (oAt (cV 11)))) (cV 9))) (cL (tm (tT 10 (cV 8)) (oAt (cV 11)) oNo)))))
 (sIf (tL (qG (cT (nN oe (aCons (c2 dIx (cV 10) (cC (.int 0))) (aCons (c2 dIx (cV 10) (cC (.int 2))) (a1 (c2 dIx (cV 10) (cC (.int 1)))))))))) (oZ (cC (.bl false))) pG))))))
section
variable{T:List Tk}(g:Good T){V:List Vk}(hV:V∈gV)
abbrev TL(T:List Tk):L4.D:=LD T
theorem item(g:Good T)(hV:V∈gV)(hd:d∈menu):∃(s:Nat) (o l:List L4.D),d=.tup [.int (s:Nat),.lst o]/\s<3/\o.length<=3/\l.length<=20/\([LD T,.lst (V.map vkD),WL]:List L4.D)[s]?=some (.lst l)/\∀a:Nat,a<=l.length->
  ∃n0 n1 n2,([LD T,.lst (V.map vkD),WL]:List L4.D).set s (.lst (l.take a++o++l.drop a))=[n0,n1,n2]/\oe [n0,n2,n1]=some (.bl true):=by
 have hl:=g.len;have lV:V.length<=4:=by have v0:=aw.mp zB V hV;simp only[aA]at v0;exact bI v0.1
 unfold menu at hd;rcases aZ.mp hd with hd|hd
 ·obtain⟨q,hq,rfl⟩:=aI.mp hd;have cq:cI q=true:=by
   rcases aZ.mp hq with h|h
   ·exact aw.mp Pj q h
   ·exact aw.mp Pk q h
  have lq:(iD q).length<=3:=by
   cases q with
   |inl l=>have c:cA l=true:=cq;unfold cA at c;rw[aA]at c;have:=bI c.1;show l.length<=3;omega
   |inr K=>have c:cK' K=true:=cq;unfold cK' at c;rw[aA]at c;have:=bI c.1;show (K.map vkD).length<=3;rw[ai];omega
  exact⟨1,iD q,V.map vkD,rfl,by decide,lq,by rw[ai];omega,rfl,λa _=>⟨_,_,_,rfl,OQ g hV a cq⟩⟩
 ·rcases aZ.mp hd with hd|hd
  ·obtain⟨x,hx,rfl⟩:=aI.mp hd;exact⟨2,[wyD (wO x)],w2.map wyD,rfl,by decide,(by show 1<=3;decide),by decide,rfl,λa ha=>⟨_,_,_,rfl,OV g hV (Nat.lt_succ_of_le ha) hx⟩⟩
  ·obtain⟨x,hx,rfl⟩:=aI.mp hd;exact⟨0,[tkD (tO' x)],T.map tkD,rfl,by decide,(by show 1<=3;decide),by rw[ai];omega,rfl,λa _=>⟨_,_,_,rfl,OU g hV a hx⟩⟩
end
theorem Nl{gg:FG}(h1:f ρ=some (d,ρ1))(h2:gg d ρ1=some ρ2):yN f gg ρ=some (.nx ρ2):=by unfold yN;rw[h1];simp only[h2]
theorem lt3{s:Nat}(h:s<3):s=0\/s=1\/s=2:=by omega
section
variable{T:List Tk}(g:Good T){V:List Vk}(hV:V∈gV)
include g hV
theorem Jn(ns:List Int)(k:Nat)(es:List L4.D)(s7 s8 s9 s10 s11:Sl):∃t7 t8 t9 t10 t11,lB [.im (.fzl (ns.map D.int)),.ls es,.im (LD T),.im WL,.im (.lst (V.map vkD)),.im (.lst menu),.im (.int k),s7,s8,s9,s10,s11,.un]=some (.nx [.im (.fzl (ns.map D.int)),.ls es,.im (LD T),.im WL,.im (.lst (V.map vkD)),.im (.lst menu),.im (.int k),t7,t8,t9,t10,t11,.un]):=by
 obtain⟨c,ec⟩:=Dr ns k;let S:Sl:=.im (.fzl (ns.map D.int));let E:Sl:=.ls es;let A:Sl:=.im (LD T);let W:Sl:=.im WL;let X:Sl:=.im (.lst (V.map vkD));let M:Sl:=.im (.lst menu);let K:Sl:=.im (.int k);have lm:=GF;obtain⟨j,hj⟩:=cH (eJ (c+7 * (k:Int)) (by decide:(99:Int)≠0));have hj7:j<menu.length:=by have:=eC (c+7 * (k:Int)) (by decide:(0:Int)<99);omega
 obtain⟨s,o,l,ed,hs,lo,ll,el,rf⟩:=item g hV (dS hj7);obtain⟨a,ha⟩:=cH (eJ (c / 99) (by omega:(l.length:Int)+1≠0));have haT:a<=l.length:=by have:=eC (c / 99) (by omega:(0:Int)<(l.length:Int)+1);omega
 obtain⟨n0,n1,n2,en,er⟩:=rf a haT;let C:Sl:=.im (.int c);let S8:Sl:=.im (.int (s:Nat));let O9:Sl:=.im (.lst o);let L3':List L4.D:=[LD T,.lst (V.map vkD),WL];let A11:Sl:=.im (.int (a:Nat));let ρ11:List Sl:=[S,E,A,W,X,M,K,C,S8,O9,.ls L3',A11,.un];refine⟨C,S8,O9,.ls [n0,n1,n2],A11,?_⟩;unfold lB;refine(nJ (ρ':=[S,E,A,W,X,M,K,C,s8,s9,s10,s11,.un]) ((o9 (n5 (ds:=[.fzl (ns.map D.int),.int k]) (ρ1:=[S,E,A,W,X,M,K,s7,s8,s9,s10,s11,.un]) rfl ec)).trans rfl)).trans ?_;have h7:sk 7=true:=by decide
 have eM:p6 (.lst menu)=some (.int 99):=by show some (D.int (menu.length:Nat))=_;rw[lm];rfl
 refine(nJ (ρ':=[S,E,A,W,X,M,K,C,S8,O9,s10,s11,.un]) (Nl (d:=.tup [.int (s:Nat),.lst o]) (ρ1:=[S,E,A,W,X,M,K,C,s8,s9,s10,s11,.un]) (om (x:=.lst menu) (y:=.int (j:Nat)) (ρ1:=[S,E,A,W,X,M,K,C,s8,s9,s10,s11,.un]) rfl ((om (x:=.int (c+7 * (k:Int))) (y:=.int 99) (ρ1:=[S,E,A,W,X,M,K,C,s8,s9,s10,s11,.un]) (om rfl (om rfl rfl (rM (.inl h7))) rfl) (oI rfl eM) (se (by decide))).trans (by rw[hj])) ?_) rfl)).trans ?_
 ·rw[<-ed];exact sd (aS hj7)
 refine(nJ (ρ':=[S,E,A,W,X,M,K,C,S8,O9,.ls L3',s11,.un]) rfl).trans ?_;have eI:dIx (.lst L3') (.int (s:Nat))=some (.lst l):=sd el;refine(nJ (ρ':=ρ11) ((o9 (xZ (d:=.int (a:Nat)) (ρ1:=[S,E.bor,A,W,X,M,K,C,S8,O9,.im (.lst L3'),s11.bor,Sl.un.bor]) ?_ rfl)).trans rfl)).trans ?_
 ·let ρb:List Sl:=[S,E.bor,A,W,X,M,K,C,S8,O9,.im (.lst L3'),s11.bor,Sl.un.bor];refine(om (x:=.int (c / 99)) (y:=.int ((l.length:Int)+1)) (ρ1:=ρb) (ρ2:=ρb) (om (x:=.int c) (y:=.int 99) rfl (oI rfl eM) (div_pos (by decide) (by decide))) (om (x:=.int (l.length:Nat)) (y:=.int 1) (oI (om rfl rfl eI) rfl) rfl rfl) (se (by omega))).trans ?_;rw[ha]
 have x0:tT 10 (cV 8) ρ11=some (.lst l,ρ11):=Nd (ds:=L3') (d0:=L3') rfl rfl rfl (sd el);have x1:tm (tT 10 (cV 8)) oNo (oAt (cV 11)) ρ11=some (l.take a,ρ11):=(Aj (ds:=l) (ρ1:=ρ11) (ρ2:=ρ11) (ρ3:=ρ11) (l:=none) (u:=some (a:Int)) x0 rfl rfl).trans (by rw[Ai a haT]);have x2:tm (tT 10 (cV 8)) (oAt (cV 11)) oNo ρ11=some (l.drop a,ρ11):=(Aj (ds:=l) (ρ1:=ρ11) (ρ2:=ρ11) (ρ3:=ρ11) (l:=some (a:Int)) (u:=none) x0 rfl rfl).trans (by rw[Gv a haT]);have lt:(l.take a).length<=20:=by rw[bp];omega
 have ld:(l.drop a).length<=20:=by rw[cp];omega
 have x3:cL (o4 (cL (o4 (cL (tm (tT 10 (cV 8)) oNo (oAt (cV 11)))) (cV 9))) (cL (tm (tT 10 (cV 8)) (oAt (cV 11)) oNo))) ρ11=some (.lst (l.take a++o++l.drop a),ρ11):=
  p7 (qT (p7 (qT (p7 x1) (ys:=o) (ρ2:=ρ11) rfl (by omega))) (p7 x2) (by rw[aB];omega))
 let ρ12:List Sl:=[S,E,A,W,X,M,K,C,S8,O9,.ls [n0,n1,n2],A11,.un];refine(nJ (ρ':=ρ12) ?_).trans ?_
 ·unfold sIxPut;rw[x3];show (match ixN 3 (s:Int)with|some k=>some (Out.nx [S,E,A,W,X,M,K,C,S8,O9,.ls (L3'.set k (.lst (l.take a++o++l.drop a))),A11,.un])|none=>none)=_;rw[show ixN 3 (s:Int)=some s from by rcases lt3 hs with rfl|rfl|rfl<;>rfl];show some (Out.nx [S,E,A,W,X,M,K,C,S8,O9,.ls (L3'.set s (.lst (l.take a++o++l.drop a))),A11,.un])=_;rw[show L3'.set s (.lst (l.take a++o++l.drop a))=[n0,n1,n2] from en]
 have et:tL (qG (cT (nN oe (aCons (c2 dIx (cV 10) (cC (.int 0))) (aCons (c2 dIx (cV 10) (cC (.int 2))) (a1 (c2 dIx (cV 10) (cC (.int 1))))))))) ρ12=some (false,ρ12):=by refine Iu (ρ1:=ρ12.map Sl.bor) ?_;unfold qG;rw[wc (n5 (ds:=[n0,n2,n1]) (ρ1:=ρ12.map Sl.bor) rfl er)];rfl
 exact(rE et).trans rfl
theorem Ds(ns:List Int)(es:List L4.D):∀(l:List Nat) (s6 s7 s8 s9 s10 s11:Sl),∃t6 t7 t8 t9 t10 t11,forL (gN 6) lB (l.map λk:Nat=>D.int (k:Nat)) [.im (.fzl (ns.map D.int)),.ls es,.im (LD T),.im WL,.im (.lst (V.map vkD)),.im (.lst menu),s6,s7,s8,s9,s10,s11,.un]=some (.nx [.im (.fzl (ns.map D.int)),.ls es,.im (LD T),.im WL,.im (.lst (V.map vkD)),.im (.lst menu),t6,t7,t8,t9,t10,t11,.un])
 |[],s6,s7,s8,s9,s10,s11=>⟨s6,s7,s8,s9,s10,s11,rfl⟩
 |k::l,s6,s7,s8,s9,s10,s11=>by obtain⟨t7,t8,t9,t10,t11,e⟩:=Jn g hV ns k es s7 s8 s9 s10 s11;obtain⟨u6,u7,u8,u9,u10,u11,e2⟩:=Ds ns es l (.im (.int k)) t7 t8 t9 t10 t11;refine⟨u6,u7,u8,u9,u10,u11,?_⟩;rw[aN];unfold forL;rw[show gN 6 (.int (k:Nat)) [.im (.fzl (ns.map D.int)),.ls es,.im (LD T),.im WL,.im (.lst (V.map vkD)),.im (.lst menu),s6,s7,s8,s9,s10,s11,.un]=some [.im (.fzl (ns.map D.int)),.ls es,.im (LD T),.im WL,.im (.lst (V.map vkD)),.im (.lst menu),.im (.int k),s7,s8,s9,s10,s11,.un] from rfl];simp only[e];exact e2
end
theorem Nm(ns:List Int)(hl:ns.length<=63):JO [.fzl (ns.map D.int)]=some (.bl true):=by
 obtain⟨c0,e0⟩:=Dr ns 0;obtain⟨T0,es1,d0,xt,h1⟩:=Ek (es:=[.int c0]) (.inl ⟨c0,rfl⟩);rw[OF]at xt;have g:=Ji d0;generalize (T0++cc).map Th.tk=T at xt g;obtain⟨t,n,es2,ht,hn,xv,h2⟩:=GE h1;have hV:=OM ht hn;generalize vL t n=V at xv hV;have el:=Dp g hV;have ek:=Dp g Jm;let S:Sl:=.im (.fzl (ns.map D.int));let E:Sl:=.ls es2;let A:Sl:=.im (LD T);let W:Sl:=.im WL;let X:Sl:=.im (.lst (V.map vkD));let M:Sl:=.im (.lst menu);let Lk:Sl:=.im (.lst (Jl.map vkD));let U:Sl:=.un;let m:Int:=if (if (ns.length:Int)<40 then (ns.length:Int)else 40) > 2 then (if (ns.length:Int)<40 then (ns.length:Int)else 40)else 2
 have hm:2<=m/\m<=63:=by show 2<=(if _ then _ else _:Int)/\(if _ then _ else _:Int)<=63;split<;>split<;>omega
 obtain⟨t6,t7,t8,t9,t10,t11,e5⟩:=Ds g hV ns es2 ((aO (m - 1).toNat).map (1 + ·)) U U U U U U
 refine p8 (ρ:=[S,E,A,W,X,M,t6,t7,t8,t9,t10,t11,Lk]) rfl ?_;unfold Dc;refine(nJ (ρ':=[S,.ls [.int c0],U,U,U,U,U,U,U,U,U,U,U]) ((z5 (Lp (nU (n5 (ds:=[.fzl (ns.map D.int),.int 0]) (ρ1:=[S,U,U,U,U,U,U,U,U,U,U,U,U]) rfl e0) rfl) (bI rfl))).trans rfl)).trans ?_;refine(nJ (ρ':=[S,.ls es1,A,U,U,U,U,U,U,U,U,U,U]) ((o9 (z6 (es0:=[.int c0]) (es:=[.int c0]) (ds:=[]) (ρ1:=[S,.ls [.int c0],U,U,U,U,U,U,U,U,U,U,U]) rfl rfl rfl xt)).trans rfl)).trans ?_;refine(nJ (ρ':=[S,.ls es1,A,W,U,U,U,U,U,U,U,U,U]) (by kernel_rfl)).trans ?_;refine(nJ (ρ':=[S,E,A,W,X,U,U,U,U,U,U,U,U]) ((o9 (z6 (es0:=es1) (es:=es1) (ds:=[]) (ρ1:=[S,.ls es1,A,W,U,U,U,U,U,U,U,U,U]) rfl rfl rfl xv)).trans rfl)).trans ?_;refine(nJ (ρ':=[S,E,A,W,X,U,U,U,U,U,U,U,U]) ((rE (wc (n5 (ds:=[LD T,WL,.lst (V.map vkD)]) (ρ1:=[S,E,A,W,X,U,U,U,U,U,U,U,U]) rfl el))).trans rfl)).trans ?_;have em:cL (o4 (cL (nZ 1 [] (iL (cL (o4 (nN qp ox) (nN qq ox)))) (gN 0) oQ (oP (aCons (cC (.int 1)) (a1 (cV 0)))))) (nN pQ ox)) [S,E,A,W,X,U,U,U,U,U,U,U,U]=some (.lst menu,[S,E,A,W,X,U,U,U,U,U,U,U,U]):=by refine p7 (qT (p7 (vS (λo=>D.lst (iD o)) (λo=>.tup [.int 1,.lst (iD o)]) (mC++mF) (ρ1:=[S,E,A,W,X,U,U,U,U,U,U,U,U]) ?_ (bI (by kernel_rfl)) λo _=>⟨[.im (.lst (iD o))],[.im (.lst (iD o))],rfl,rfl,rfl⟩)) (n5 (ds:=[]) rfl ON) (bI (by kernel_rfl)));have e1:cL (o4 (nN qp ox) (nN qq ox)) [S,E,A,W,X,U,U,U,U,U,U,U,U]=some (.lst ((mC++mF).map λo=>.lst (iD o)),[S,E,A,W,X,U,U,U,U,U,U,U,U]):=(p7 (qT (n5 (ds:=[]) rfl OK) (n5 (ds:=[]) rfl OL) (bI (by kernel_rfl)))).trans (by rw[<-aY]);unfold iL;rw[e1]
 refine(nJ (ρ':=[S,E,A,W,X,M,U,U,U,U,U,U,U]) ((o9 em).trans rfl)).trans ?_;refine(nJ ((sr (ds:=((aO (m - 1).toNat).map (1 + ·)).map λk:Nat=>D.int (k:Nat)) (ρ1:=[S,E,A,W,X,M,U,U,U,U,U,U,U]) ?_).trans e5)).trans ?_
 ·have em2:c2 dMax2 (cC (.int 2)) (c2 dMin2 (cC (.int 40)) (c1 p6 (cV 0))) [S,E,A,W,X,M,U,U,U,U,U,U,U]=some (.int m,[S,E,A,W,X,M,U,U,U,U,U,U,U]):=by refine om (x:=.int 2) (y:=.int (if (ns.length:Int)<40 then (ns.length:Int)else 40)) rfl (om (x:=.int 40) (y:=.int (ns.length:Nat)) rfl (oI rfl (by show some (D.int _)=_;rw[ai])) rfl) rfl
  unfold iR2;show (match c2 dMax2 (cC (.int 2)) (c2 dMin2 (cC (.int 40)) (c1 p6 (cV 0))) [S,E,A,W,X,M,U,U,U,U,U,U,U]with
   |some (.int j,ρ2)=>if (-1000000<=(1:Int)/\(1:Int)<=1000000)/\-1000000<=j/\j<=1000000 then some (uW 1 (j - 1).toNat,ρ2)else none
   |_=>none)=_
  rw[em2];show (if (-1000000<=(1:Int)/\(1:Int)<=1000000)/\-1000000<=m/\m<=1000000 then some (uW 1 (m - 1).toNat,[S,E,A,W,X,M,U,U,U,U,U,U,U])else none)=_;rw[ag (by omega)];unfold uW;rw[bL];congr 2
 refine(nJ (ρ':=[S,E,A,W,X,M,t6,t7,t8,t9,t10,t11,Lk]) (by kernel_rfl)).trans (qv ?_);have f1:vY (nN oe (aCons (cV 2) (aCons (cV 3) (a1 (cV 12))))) [S,E,A,W,X,M,t6,t7,t8,t9,t10,t11,Lk]=some (.bl true,[S,E,A,W,X,M,t6,t7,t8,t9,t10,t11,Lk]):=Ak (n5 (ds:=[LD T,WL,.lst (Jl.map vkD)]) rfl ek);have f2:vY (nN oe (aCons (cV 2) (aCons (cV 3) (a1 (cV 4))))) [S,E,A,W,X,M,t6,t7,t8,t9,t10,t11,Lk]=some (.bl true,[S,E,A,W,X,M,t6,t7,t8,t9,t10,t11,Lk]):=Ak (n5 (ds:=[LD T,WL,.lst (V.map vkD)]) rfl el);exact(qH f1).trans f2
end K08x
namespace K08x
open PySem L2 L3 L4
open PySem.W (nsIn)
structure Fx(K:aj)(C0 C1 C2 C3 C4 C5 C6 C7 C8 C9 C10 C11 C12 C13 C14 C15:Addr):Prop where
 a0:nsIn K aG "Thing" = some (some (.ref C0))
 a1:nsIn K aG "Mark" = some (some (.ref C1))
 a2:nsIn K aG "Verb" = some (some (.ref C2))
 a3:nsIn K aG "At" = some (some (.ref C3))
 a4:nsIn K aG "Has" = some (some (.ref C4))
 a5:nsIn K aG "Seen" = some (some (.ref C5))
 a6:nsIn K aG "Marked" = some (some (.ref C6))
 a7:nsIn K aG "Kind" = some (some (.ref C7))
 a8:nsIn K aG "Word" = some (some (.ref C8))
 a9:nsIn K aG "Not" = some (some (.ref C9))
 a10:nsIn K aG "Both" = some (some (.ref C10))
 a11:nsIn K aG "Move" = some (some (.ref C11))
 a12:nsIn K aG "Put" = some (some (.ref C12))
 a13:nsIn K aG "Rule" = some (some (.ref C13))
 a14:nsIn K aG "World" = some (some (.ref C14))
 k0:CF K C0 ["kind", "name", "start", "words"]
 k1:CF K C1 ["most", "name", "start"]
 k2:CF K C2 ["form", "joining", "name", "others"]
 k3:CF K C3 ["place", "term"]
 k4:CF K C4 ["term"]
 k5:CF K C5 []
 k6:CF K C6 ["term", "value"]
 k7:CF K C7 ["kind", "term"]
 k8:CF K C8 ["word"]
 k9:CF K C9 ["inner"]
 k10:CF K C10 []
 k11:CF K C11 ["place", "term"]
 k12:CF K C12 ["term", "value"]
 k13:CF K C13 ["verb", "deeds", "refuses", "tests", "text"]
 k14:CF K C14 ["copied_rules", "kept_things", "kept_verbs", "shared_rules", "shared_verbs", "your_name", "kept_dark", "kept_marks", "kept_rules", "kept_ways", "mosts_by_name", "rules_by_verb", "things_by_name", "verbs_by_word"]
 ax:nsIn K aG "NoWorld" = some (some (.ref C15))
 xx:XC K C15
 i_Mark:vB K [C0,C1,C2,C3,C4,C5,C6,C7,C8,C9,C10,C11,C12,C13,C14] C1 1=true
 i_Thing:vB K [C0,C1,C2,C3,C4,C5,C6,C7,C8,C9,C10,C11,C12,C13,C14] C0 0=true
 i_Verb:vB K [C0,C1,C2,C3,C4,C5,C6,C7,C8,C9,C10,C11,C12,C13,C14] C2 2=true
 nd:decide ([C0,C1,C2,C3,C4,C5,C6,C7,C8,C9,C10,C11,C12,C13,C14]:List Addr).Nodup=true
 e:((["all", "any", "bool", "int", "isinstance", "len", "list", "max", "min", "range", "set", "str", "tuple"]:List Str).all λx=>match nsIn K aG x with|some none=>true|_=>false)=true
 g0:GS K "FORMS" ["alone", "one", "two", "way"]
 g1:GS K "KINDS" ["room", "plain", "fixed", "box", "lamp", "you"]
 g2:GS K "KINDS_APART" ["room", "you"]
 g3:GS K "KINDS_THAT_HOLD" ["room", "box", "you"]
 g4:GS K "KINDS_WITH_MARK" ["box", "lamp"]
 g5:GC K "MOST_BESIDE" 7
 g6:GC K "MOST_IN_NAME" 8
 g7:GC K "MOST_IN_WORD" 12
 g8:GC K "MOST_MARKS" 4
 g9:GC K "MOST_OF_MARK" 3
 g10:GC K "MOST_ROOMS" 5
 g11:GC K "MOST_RULES" 20
 g12:GC K "MOST_VERBS" 6
 g13:GC K "MOST_WAYS" 10
 g14:GC K "MOST_WORDS" 4
 g15:GS K "NO_NAMES" ["it", "other", "here", "the", "a", "undo", "restart"]
 g16:GS K "NO_WORDS" ["the", "a"]
 g17:GS K "NO_WORDS_OF_ROWS" ["the", "a", "undo", "restart"]
 q18:GD K "is_small_letters" (top 18)
 q19:GD K "is_name" (top 19)
 q20:GD K "is_word" (top 20)
 q21:GD K "is_one_of" (top 22)
 q22:GD K "is_whole" (top 23)
 q23:GD K "is_list_up_to" (top 24)
 q24:GD K "own_list" (top 96)
 q25:GJ K C0 "Thing.__init__" (inClass (top 10) 0) [V.non]
 q26:GM K C1 "__init__" "Mark.__init__" (inClass (top 11) 0)
 q27:GJ K C2 "Verb.__init__" (inClass (top 12) 0) [V.non,(V.str "one"),V.non]
 q28:GM K C3 "__init__" "At.__init__" (inClass (top 73) 0)
 q29:GM K C4 "__init__" "Has.__init__" (inClass (top 74) 0)
 q30:GM K C6 "__init__" "Marked.__init__" (inClass (top 76) 0)
 q31:GM K C7 "__init__" "Kind.__init__" (inClass (top 77) 0)
 q32:GM K C8 "__init__" "Word.__init__" (inClass (top 78) 0)
 q33:GM K C9 "__init__" "Not.__init__" (inClass (top 80) 0)
 q34:GM K C11 "__init__" "Move.__init__" (inClass (top 87) 0)
 q35:GM K C12 "__init__" "Put.__init__" (inClass (top 88) 0)
 q36:GJ K C13 "Rule.__init__" (inClass (top 95) 0) [(V.bl false)]
 q37:GM K C0 "can_hold" "Thing.can_hold" (inClass (top 10) 1)
 q38:GM K C0 "has_mark" "Thing.has_mark" (inClass (top 10) 2)
 q39:GM K C0 "is_plainly" "Thing.is_plainly" (inClass (top 10) 3)
 q40:GD K "refuse_unless" (top 34)
 q41:GD K "count_of" (top 37)
 q42:GD K "plain_ones" (top 38)
 q43:GD K "is_mark" (top 40)
 q44:GD K "check_things" (top 36)
 q45:GD K "check_marks" (top 39)
 q46:GD K "are_unlike" (top 42)
 q47:GD K "check_names" (top 41)
 q48:GD K "mark_names" (top 43)
 q49:GD K "is_start" (top 45)
 q50:GD K "comes_to_room" (top 46)
 q51:GD K "check_starts" (top 44)
 q52:GD K "are_words" (top 48)
 q53:GD K "has_all" (top 50)
 q54:GD K "is_told_apart" (top 49)
 q55:GD K "check_words_of_things" (top 47)
 q56:GD K "check_dark" (top 51)
 q57:GD K "is_way" (top 53)
 q58:GD K "check_ways" (top 52)
 q59:GD K "is_verb" (top 55)
 q60:GD K "check_verbs" (top 54)
 q61:GD K "are_apart" (top 57)
 q62:GD K "check_vocabulary" (top 56)
 q63:GD K "check_parts" (top 35)
 q64:GD K "does" (top 119)
 q65:GD K "refuses" (top 120)
 q66:GD K "hand_rules" (top 121)
 q67:GD K "put_rules" (top 122)
 q68:GD K "lid_rules" (top 123)
 q69:GD K "flame_rules" (top 124)
 q70:GD K "way_tests" (top 126)
 q71:GD K "go_rules" (top 125)
 q72:GD K "wait_rules" (top 127)
 q73:GD K "common_rules" (top 118)
 q74:GD K "common_verbs" (top 117)
 q75:GD K "by_name" (top 131)
 q76:GD K "mosts_by_name" (top 132)
 q77:GD K "verbs_by_word" (top 133)
 q78:GD K "by_verb" (top 134)
 q79:GM K C14 "of_kind" "World.of_kind" (inClass (top 130) 3)
 q80:GM K C14 "all_verbs" "World.all_verbs" (inClass (top 130) 13)
 q81:GM K C14 "__init__" "World.__init__" (inClass (top 130) 0)
 q82:GD K "_law_cell_at" (top 136)
 q83:GD K "_law_digit" (top 137)
 q84:GD K "_law_things" (top 138)
 q85:GD K "_law_verbs" (top 139)
 q86:GD K "_law_called" (top 140)
 q87:GD K "_law_formed" (top 141)
 q88:GD K "_law_things_ways" (top 142)
 q89:GD K "_law_refused" (top 143)
 q90:GD K "law" (top 144)
class Yx(B:Bz):Prop where
 y:Yw B.P B.w B.mg B.base B.G
 f:Fx B.G.K (B.G.ca 0) (B.G.ca 1) (B.G.ca 2) (B.G.ca 3) (B.G.ca 4) (B.G.ca 5) (B.G.ca 6) (B.G.ca 7) (B.G.ca 8) (B.G.ca 9) (B.G.ca 10) (B.G.ca 11) (B.G.ca 12) (B.G.ca 13) (B.G.ca 14) (B.G.ca 15)
section
variable{B:Bz}[Y:Yx B]
instance:Yb B:=⟨Y.y⟩
instance:Nb B "all" := ⟨Y.y.n Y.f.e 0 rfl⟩
instance:Nb B "any" := ⟨Y.y.n Y.f.e 1 rfl⟩
instance:Nb B "bool" := ⟨Y.y.n Y.f.e 2 rfl⟩
instance:Nb B "int" := ⟨Y.y.n Y.f.e 3 rfl⟩
instance:Nb B "isinstance" := ⟨Y.y.n Y.f.e 4 rfl⟩
instance:Nb B "len" := ⟨Y.y.n Y.f.e 5 rfl⟩
instance:Nb B "list" := ⟨Y.y.n Y.f.e 6 rfl⟩
instance:Nb B "max" := ⟨Y.y.n Y.f.e 7 rfl⟩
instance:Nb B "min" := ⟨Y.y.n Y.f.e 8 rfl⟩
instance:Nb B "range" := ⟨Y.y.n Y.f.e 9 rfl⟩
instance:Nb B "set" := ⟨Y.y.n Y.f.e 10 rfl⟩
instance:Nb B "str" := ⟨Y.y.n Y.f.e 11 rfl⟩
instance:Nb B "tuple" := ⟨Y.y.n Y.f.e 12 rfl⟩
instance:Co B "FORMS" Da:=⟨Y.y.cs Y.f.g0⟩
instance:Co B "KINDS" xw:=⟨Y.y.cs Y.f.g1⟩
instance:Co B "KINDS_APART" uL:=⟨Y.y.cs Y.f.g2⟩
instance:Co B "KINDS_THAT_HOLD" sf:=⟨Y.y.cs Y.f.g3⟩
instance:Co B "KINDS_WITH_MARK" sg:=⟨Y.y.cs Y.f.g4⟩
instance:Co B "MOST_BESIDE" sv:=⟨Y.y.ci Y.f.g5⟩
instance:Co B "MOST_IN_NAME" uh:=⟨Y.y.ci Y.f.g6⟩
instance:Co B "MOST_IN_WORD" ui:=⟨Y.y.ci Y.f.g7⟩
instance:Co B "MOST_MARKS" vC:=⟨Y.y.ci Y.f.g8⟩
instance:Co B "MOST_OF_MARK" uj:=⟨Y.y.ci Y.f.g9⟩
instance:Co B "MOST_ROOMS" tD:=⟨Y.y.ci Y.f.g10⟩
instance:Co B "MOST_RULES" vF:=⟨Y.y.ci Y.f.g11⟩
instance:Co B "MOST_VERBS" tE:=⟨Y.y.ci Y.f.g12⟩
instance:Co B "MOST_WAYS" uk:=⟨Y.y.ci Y.f.g13⟩
instance:Co B "MOST_WORDS" vE:=⟨Y.y.ci Y.f.g14⟩
instance:Co B "NO_NAMES" yp:=⟨Y.y.cs Y.f.g15⟩
instance:Co B "NO_WORDS" yq:=⟨Y.y.cs Y.f.g16⟩
instance:Co B "NO_WORDS_OF_ROWS" pL:=⟨Y.y.cs Y.f.g17⟩
instance:Ff B sI "copied_rules" := ⟨uE (Y.f.k14.at 0 rfl)⟩
instance:Ff B yn "form" := ⟨uE (Y.f.k2.at 0 rfl)⟩
instance:Ff B pq "joining" := ⟨uE (Y.f.k2.at 1 rfl)⟩
instance:Ff B tN "kept_things" := ⟨uE (Y.f.k14.at 1 rfl)⟩
instance:Ff B ug "kept_verbs" := ⟨uE (Y.f.k14.at 2 rfl)⟩
instance:Ff B oV "kind" := ⟨orQ (uE (Y.f.k0.at 0 rfl)) (Y.f.k7.at 0 rfl)⟩
instance:Ff B rS "most" := ⟨uE (Y.f.k1.at 0 rfl)⟩
instance:Ff B n8 "name" := ⟨orQ (orQ (uE (Y.f.k0.at 1 rfl)) (Y.f.k1.at 1 rfl)) (Y.f.k2.at 2 rfl)⟩
instance:Ff B p9 "others" := ⟨uE (Y.f.k2.at 3 rfl)⟩
instance:Ff B sJ "shared_rules" := ⟨uE (Y.f.k14.at 3 rfl)⟩
instance:Ff B sL "shared_verbs" := ⟨uE (Y.f.k14.at 4 rfl)⟩
instance:Ff B qj "start" := ⟨orQ (uE (Y.f.k0.at 2 rfl)) (Y.f.k1.at 2 rfl)⟩
instance:Ff B Bb "verb" := ⟨uE (Y.f.k13.at 0 rfl)⟩
instance:Ff B pj "words" := ⟨uE (Y.f.k0.at 3 rfl)⟩
instance:Ff B uK "your_name" := ⟨uE (Y.f.k14.at 5 rfl)⟩
instance:Af B 0 ["kind", "name", "start", "words"]:=⟨Y.f.k0⟩
instance:Af B 1 ["most", "name", "start"]:=⟨Y.f.k1⟩
instance:Af B 2 ["form", "joining", "name", "others"]:=⟨Y.f.k2⟩
instance:Af B 3 ["place", "term"]:=⟨Y.f.k3⟩
instance:Af B 4 ["term"]:=⟨Y.f.k4⟩
instance:Af B 6 ["term", "value"]:=⟨Y.f.k6⟩
instance:Af B 7 ["kind", "term"]:=⟨Y.f.k7⟩
instance:Af B 8 ["word"]:=⟨Y.f.k8⟩
instance:Af B 9 ["inner"]:=⟨Y.f.k9⟩
instance:Af B 11 ["place", "term"]:=⟨Y.f.k11⟩
instance:Af B 12 ["term", "value"]:=⟨Y.f.k12⟩
instance:Af B 13 ["verb", "deeds", "refuses", "tests", "text"]:=⟨Y.f.k13⟩
instance:Af B 14 ["copied_rules", "kept_things", "kept_verbs", "shared_rules", "shared_verbs", "your_name", "kept_dark", "kept_marks", "kept_rules", "kept_ways", "mosts_by_name", "rules_by_verb", "things_by_name", "verbs_by_word"]:=⟨Y.f.k14⟩
instance:Ic B "Mark" Gi:=⟨1,we Y.f.i_Mark rfl (F7 15 _) (BW.at ⟨Y.f.k0.ci,Y.f.k1.ci,Y.f.k2.ci,Y.f.k3.ci,Y.f.k4.ci,Y.f.k5.ci,Y.f.k6.ci,Y.f.k7.ci,Y.f.k8.ci,Y.f.k9.ci,Y.f.k10.ci,Y.f.k11.ci,Y.f.k12.ci,Y.f.k13.ci,Y.f.k14.ci,trivial⟩),Y.y.g Y.f.a1⟩
instance:Ic B "Thing" Ag:=⟨0,we Y.f.i_Thing rfl (F7 15 _) (BW.at ⟨Y.f.k0.ci,Y.f.k1.ci,Y.f.k2.ci,Y.f.k3.ci,Y.f.k4.ci,Y.f.k5.ci,Y.f.k6.ci,Y.f.k7.ci,Y.f.k8.ci,Y.f.k9.ci,Y.f.k10.ci,Y.f.k11.ci,Y.f.k12.ci,Y.f.k13.ci,Y.f.k14.ci,trivial⟩),Y.y.g Y.f.a0⟩
instance:Ic B "Verb" Gj:=⟨2,we Y.f.i_Verb rfl (F7 15 _) (BW.at ⟨Y.f.k0.ci,Y.f.k1.ci,Y.f.k2.ci,Y.f.k3.ci,Y.f.k4.ci,Y.f.k5.ci,Y.f.k6.ci,Y.f.k7.ci,Y.f.k8.ci,Y.f.k9.ci,Y.f.k10.ci,Y.f.k11.ci,Y.f.k12.ci,Y.f.k13.ci,Y.f.k14.ci,trivial⟩),Y.y.g Y.f.a2⟩
instance:Xn B "NoWorld" 15:=⟨Y.f.xx,Y.y.g Y.f.ax⟩
instance:Ij B 15:=⟨Pe Y.f.nd⟩
local macro_rules|`(tactic|trivial)=>do let x:=("zr_l2I zr_xC zr_xI zr_xR zr_xU zr_yI zr_y1 zr_y0 zr_tI zr_df0 zr_xpT Oq On Os Ot CP Ox LY Mv Ou LW MB Mu LH LI Mw My Mr L1 Ml L8 MC LO LP LQ LR LL Mz Oy ME LM L0 MG MI Mx MS LZ LX LV LG Mb Mc Ov MK LU LS Oz OA Mg LJ LK Mh LN MQ MR MH MJ ML Ow L6 L7 MM MN Mi L9 Mj MO MP IT IS IU Mn Mo Mp Ma zr_r2I Md zr_xeI Me IR MF zr_mxI zr_mnI zr_xsI MU MV IQ MA".splitOn " ").toArray.map fun s=>Lean.mkIdent (.mkSimple s);`(tactic|repeat' first|(with_reducible apply eqI);(first|rfl|kernel_rfl)|((with_reducible first|apply Ms|apply Mt);rotate_left 7;rfl)|(with_reducible first $[|apply $x]*)|(with_reducible intro _)|exact kq)
instance:Df B 1 "is_small_letters" (spF B.G qx):=gF4 rfl Y.f.q18 rfl (by unfold rT;trivial)
instance:Df B 2 "is_name" (spF B.G oh):=gF4 rfl Y.f.q19 rfl (by unfold zl;trivial)
instance:Df B 2 "is_word" (spF B.G qV):=gF4 rfl Y.f.q20 rfl (by unfold zm;trivial)
instance:Df B 1 "is_one_of" (spF B.G oG):=gF4 rfl Y.f.q21 rfl (by unfold wL;trivial)
instance:Df B 1 "is_whole" (spF B.G uY):=gF4 rfl Y.f.q22 rfl (by unfold yt;trivial)
instance:Df B 1 "is_list_up_to" (spF B.G oM):=gF4 rfl Y.f.q23 rfl (by unfold tO;trivial)
instance:Df B 1 "own_list" (spF B.G uZ):=gF4 rfl Y.f.q24 rfl (by unfold yu;trivial)
theorem uT:Bdz B (nmO (inClass (top 10) 0)) "Thing.__init__" (inClass (top 10) 0) (oi (inClass (top 10) 0)) 0 tG:=by
 unfold tG;refine CP ?_ ?_
 all_goals trivial
instance:Kf B 1 "Thing" 0 o7 [D.non]:=gJ4 (dds:=[D.non]) Y.f.k0 Y.f.a0 rfl Y.f.q25 rfl rfl uT 0
instance:Kf B 1 "Thing" 0 o7 []:=gJ4 (dds:=[D.non]) Y.f.k0 Y.f.a0 rfl Y.f.q25 rfl rfl uT 1
instance:Kf B 1 "Mark" 1 rg []:=gI4 Y.f.k1 Y.f.a1 rfl Y.f.q26 rfl rfl (by unfold wM;trivial)
theorem rJ:Bdz B (nmO (inClass (top 12) 0)) "Verb.__init__" (inClass (top 12) 0) (oi (inClass (top 12) 0)) 0 um:=by
 unfold um;refine CP ?_ ?_
 all_goals trivial
instance:Kf B 1 "Verb" 2 nQ [D.non,(D.str "one"),D.non]:=gJ4 (dds:=[D.non,(D.str "one"),D.non]) Y.f.k2 Y.f.a2 rfl Y.f.q27 rfl rfl rJ 0
instance:Kf B 1 "Verb" 2 nQ [(D.str "one"),D.non]:=gJ4 (dds:=[D.non,(D.str "one"),D.non]) Y.f.k2 Y.f.a2 rfl Y.f.q27 rfl rfl rJ 1
instance:Kf B 1 "Verb" 2 nQ [D.non]:=gJ4 (dds:=[D.non,(D.str "one"),D.non]) Y.f.k2 Y.f.a2 rfl Y.f.q27 rfl rfl rJ 2
instance:Kf B 1 "Verb" 2 nQ []:=gJ4 (dds:=[D.non,(D.str "one"),D.non]) Y.f.k2 Y.f.a2 rfl Y.f.q27 rfl rfl rJ 3
instance:Kf B 1 "At" 3 wg []:=gI4 Y.f.k3 Y.f.a3 rfl Y.f.q28 rfl rfl (by unfold zp;trivial)
instance:Kf B 1 "Has" 4 u4 []:=gI4 Y.f.k4 Y.f.a4 rfl Y.f.q29 rfl rfl (by unfold yw;trivial)
instance:Kf B 1 "Marked" 6 pC []:=gI4 Y.f.k6 Y.f.a6 rfl Y.f.q30 rfl rfl (by unfold uM;trivial)
instance:Kf B 1 "Kind" 7 qa []:=gI4 Y.f.k7 Y.f.a7 rfl Y.f.q31 rfl rfl (by unfold wN;trivial)
instance:Kf B 1 "Word" 8 wR []:=gI4 Y.f.k8 Y.f.a8 rfl Y.f.q32 rfl rfl (by unfold wQ;trivial)
instance:Kf B 1 "Not" 9 qb []:=gI4 Y.f.k9 Y.f.a9 rfl Y.f.q33 rfl rfl (by unfold yx;trivial)
instance:Kf B 1 "Move" 11 rh []:=gI4 Y.f.k11 Y.f.a11 rfl Y.f.q34 rfl rfl (by unfold wU;trivial)
instance:Kf B 1 "Put" 12 rU []:=gI4 Y.f.k12 Y.f.a12 rfl Y.f.q35 rfl rfl (by unfold yy;trivial)
instance:Kf B 2 "Rule" 13 uo []:=gJ4 (dds:=[(D.bl false)]) Y.f.k13 Y.f.a13 rfl Y.f.q36 rfl rfl (by unfold wV;trivial) 1
instance:Mf B 9 "can_hold" qc:=⟨λc h e=>by
 unfold qc at e;split at e
 ·cases e;exact hF4 (k:=8) Y.f.k0 rfl Y.f.q37 rfl (by unfold sM;trivial)
 ·cases e⟩
instance:Mf B 9 "has_mark" pI:=⟨λc h e=>by
 unfold pI at e;split at e
 ·cases e;exact hF4 (k:=8) Y.f.k0 rfl Y.f.q38 rfl (by unfold sO;trivial)
 ·cases e⟩
instance:Mf B 9 "is_plainly" qW:=⟨λc h e=>by
 unfold qW at e;split at e
 ·cases e;exact hF4 (k:=8) Y.f.k0 rfl Y.f.q39 rfl (by unfold rV;trivial)
 ·cases e⟩
instance:Dx B 1 "refuse_unless" 15 nI:=gX4 rfl Y.f.q40 rfl (by unfold tP;trivial)
instance:Df B 1 "count_of" (spF B.G qX):=gF4 rfl Y.f.q41 rfl (by unfold yz;trivial)
instance:Df B 10 "plain_ones" (spN B.G pM):=gN4 rfl Y.f.q42 rfl (by unfold vG;trivial)
instance:Df B 2 "is_mark" (spF B.G zr):=gF4 rfl Y.f.q43 rfl (by unfold zq;trivial)
instance:Dx B 11 "check_things" 15 qd:=gX4 rfl Y.f.q44 rfl (by unfold uq;trivial)
instance:Dx B 3 "check_marks" 15 uO:=gX4 rfl Y.f.q45 rfl (by unfold uN;trivial)
instance:Df B 1 "are_unlike" (spF B.G oj):=gF4 rfl Y.f.q46 rfl (by unfold vH;trivial)
instance:Dx B 3 "check_names" 15 pE:=gX4 rfl Y.f.q47 rfl (by unfold qo;trivial)
instance:Df B 10 "mark_names" (spN B.G oF):=gN4 rfl Y.f.q48 rfl (by unfold vI;trivial)
instance:Df B 10 "is_start" (spF B.G vc):=gF4 rfl Y.f.q49 rfl (by unfold va;trivial)
instance:Df B 1 "comes_to_room" (spF B.G oN):=gF4 rfl Y.f.q50 rfl (by unfold tQ;trivial)
instance:Dx B 11 "check_starts" 15 qe:=gX5 ["things", "starts", "thing"] rfl Y.f.q51 rfl (by unfold qI;trivial)
instance:Df B 3 "are_words" (spF B.G oE):=gF4 rfl Y.f.q52 rfl (by unfold wW;trivial)
instance:Df B 1 "has_all" (spF B.G qC):=gF4 rfl Y.f.q53 rfl (by unfold zt;trivial)
instance:Df B 2 "is_told_apart" (spF B.G pU):=gF4 rfl Y.f.q54 rfl (by unfold rl;trivial)
instance:Dx B 11 "check_words_of_things" 15 oq:=gX4 rfl Y.f.q55 rfl (by unfold oH;trivial)
instance:Dx B 2 "check_dark" 15 vK:=gX4 rfl Y.f.q56 rfl (by unfold vJ;trivial)
instance:Df B 3 "is_way" (spF B.G vM):=gF4 rfl Y.f.q57 rfl (by unfold yA;trivial)
instance:Dx B 4 "check_ways" 15 px:=gX4 rfl Y.f.q58 rfl (by unfold rF;trivial)
instance:Df B 3 "is_verb" (spF B.G o3):=gF4 rfl Y.f.q59 rfl (by unfold zu;trivial)
instance:Dx B 4 "check_verbs" 15 pF:=gX4 rfl Y.f.q60 rfl (by unfold qZ;trivial)
instance:Df B 1 "are_apart" (spF B.G oX):=gF4 rfl Y.f.q61 rfl (by unfold wX;trivial)
instance:Dx B 11 "check_vocabulary" 15 pb:=gX4 rfl Y.f.q62 rfl (by unfold pN;trivial)
instance:Dx B 12 "check_parts" 15 oR:=gX4 rfl Y.f.q63 rfl (by unfold q8;trivial)
instance:Df B 4 "does" (spF B.G sy):=gF4 rfl Y.f.q64 rfl (by unfold Gk;trivial)
instance:Df B 4 "refuses" (spF B.G oK):=gF4 rfl Y.f.q65 rfl (by unfold zv;trivial)
instance:Df B 5 "hand_rules" (spN B.G vO):=gN4 rfl Y.f.q66 rfl (by unfold vN;trivial)
instance:Df B 5 "put_rules" (spN B.G wZ):=gN4 rfl Y.f.q67 rfl (by unfold wY;trivial)
instance:Df B 5 "lid_rules" (spN B.G w6):=gN4 rfl Y.f.q68 rfl (by unfold w5;trivial)
instance:Df B 5 "flame_rules" (spN B.G uQ):=gN4 rfl Y.f.q69 rfl (by unfold uP;trivial)
instance:Df B 3 "way_tests" (spN B.G xa):=gN4 rfl Y.f.q70 rfl (by unfold w9;trivial)
instance:Df B 5 "go_rules" (spN B.G yC):=gN4 rfl Y.f.q71 rfl (by unfold yB;trivial)
instance:Df B 5 "wait_rules" (spN B.G vQ):=gN4 rfl Y.f.q72 rfl (by unfold vP;trivial)
instance:Df B 6 "common_rules" (spN B.G rX):=gN4 rfl Y.f.q73 rfl (by unfold ur;trivial)
instance:Df B 3 "common_verbs" (spN B.G qJ):=gN4 rfl Y.f.q74 rfl (by unfold uu;trivial)
instance:Df B 1 "by_name" (spF B.G wo):=gF4 rfl Y.f.q75 rfl (by unfold wm;trivial)
instance:Df B 10 "mosts_by_name" (spF B.G rq):=gF4 rfl Y.f.q76 rfl (by unfold rp;trivial)
instance:Df B 1 "verbs_by_word" (spF B.G pV):=gF4 rfl Y.f.q77 rfl (by unfold tR;trivial)
instance:Df B 1 "by_verb" (spF B.G wq):=gF4 rfl Y.f.q78 rfl (by unfold zw;refine⟨Ee (stW (by kernel_rfl) AB rfl) (Ex kq rfl (AQ (AG B.G.K (BD (pvI (by kernel_rfl))))) (pgI (by kernel_rfl)) (xm (zG (EV B.G.K gd ib jR vV (FU (pvI (by kernel_rfl)) (E9 (BD (pvI (by kernel_rfl))) (Ff.p (B:=B))) (EG tV) ⟨rfl,rfl,rfl,rfl⟩) (qY (pvI (by kernel_rfl)) tV))))) (Bl (PE.ghost (pvI (by kernel_rfl))))⟩)
instance:Mf B 9 "of_kind" sA:=⟨λc h e=>by
 unfold sA at e;split at e
 ·cases e;exact hF4 (k:=8) Y.f.k14 rfl Y.f.q79 rfl (by unfold tS;trivial)
 ·cases e⟩
instance:Mf B 9 "all_verbs" rB:=⟨λc h e=>by
 unfold rB at e;split at e
 ·cases e;exact hF4 (k:=8) Y.f.k14 rfl Y.f.q80 rfl (by unfold sh;trivial)
 ·cases e⟩
instance:Kx B 13 "World" 14 15 pP:=gXI4 Y.f.k14 Y.f.a14 rfl Y.f.q81 rfl rfl (by unfold pO;trivial)
instance:Df B 1 "_law_cell_at" (spF B.G qf):=gF4 rfl Y.f.q82 rfl (by unfold uv;trivial)
instance:Df B 1 "_law_digit" (spM B.G oo):=gM4 rfl Y.f.q83 rfl rfl (by unfold rG;trivial)
instance:Df B 3 "_law_things" (spM B.G sD):=gM5 ["_law_state", "_law_rooms", "_law_things_here", "_law_holders", "_law_pool", "_law_turn", "_law_k", "_law_name", "_law_words", "_law_kind"] rfl Y.f.q84 rfl rfl (by unfold sC;trivial)
instance:Df B 3 "_law_verbs" (spM B.G tI):=gM4 rfl Y.f.q85 rfl rfl (by unfold tH;trivial)
instance:Df B 3 "_law_called" (spF B.G qp):=gF4 rfl Y.f.q86 rfl (by unfold uR;trivial)
instance:Df B 3 "_law_formed" (spF B.G qq):=gF5 ["_law_found", "_law_form", "_law_joinings"] rfl Y.f.q87 rfl (by unfold uS;trivial)
instance:Df B 3 "_law_things_ways" (spF B.G pQ):=gF5 ["_law_words", "_law_found", "_law_word"] rfl Y.f.q88 rfl (by unfold rY;trivial)
instance:Df B 15 "_law_refused" (spF B.G oe):=gF4 rfl Y.f.q89 rfl (by unfold qM;trivial)
theorem GH:Bdz B ["_law_script", "_law_state", "_law_things_here", "_law_ways", "_law_verbs_here", "_law_menu", "_law_k", "_law_cell", "_law_sort", "_law_odd", "_law_some", "_law_at", "_law_like"] "law" (top 144) (oi (top 144)) 15 Dc:=by
 unfold Dc;refine CP ?_ ?_
 all_goals trivial
end
end K08x
namespace K08x
open PySem L2 L3 L4
def Dt(K:aj):Sp:=λvs H Q _=>∃(a:Addr) (ns:List Int),vs=[.ref a]/\SqL K H a (ns.map V.int)/\ns.length<=63/\∀H',Q (.bl true) H'
theorem zC{G:Bg}{H:Hp}:∀ns:List Int,nM G H (ns.map D.int) (ns.map V.int)
 |[]=>ot
 |n::ns=>oB (pK n) (zC ns)
theorem Jo{G:Bg}:∀vs H Q E,Dt G.K vs H Q E->spF G JO vs H Q E:=λvs H Q E h=>by obtain⟨a,ns,rfl,hs,hl,k⟩:=h;refine⟨H,[.fzl (ns.map D.int)],.bl true,nR.refl _,oB (by unfold L4.Rep;exact⟨a,_,rfl,hs,zC ns⟩) ot,Nm ns hl,λv H0' H' _ _ _ _ r=>?_⟩;unfold L4.Rep at r;subst r;exact k H'
section
variable{K:aj}{x m q:Str}{st:Stmt}{f C:Addr}{oc:aa}{od:Option Addr}{kV doc pm:aa}{an:Option Addr}{cdv ct:aa}{osl:Array (Option aa)}
theorem GK(lk:K.lookup f=some ⟨oc,od,.func (dq x q (qE st) (oi st) (nV st) .none kV doc pm an cdv ct),osl⟩)(hc:eY K cdv q=true)(kp:cG K (.ref f)=true):∃fd,Fun K x q st f fd:=⟨_,⟨_,_,_,_,_,_,_,_,_,rfl,lk,hc⟩,kp⟩
theorem gd_mk(h:fo K aG x=some (some (.ref f)))(lk:K.lookup f=some ⟨oc,od,.func (dq x x (qE st) (oi st) (nV st) .none kV doc pm an cdv ct),osl⟩)(hc:eY K cdv x=true)(kp:cG K (.ref f)=true):GD K x st:=⟨f,(GK lk hc kp).imp λ_ F=>⟨h,F⟩⟩
theorem gm_mk(h:ck K (.ref C) m=some (some (.ref f)))(hf:gQ K (.ref f)=true)(lk:K.lookup f=some ⟨oc,od,.func (dq m q (qE st) (oi st) (nV st) .none kV doc pm an cdv ct),osl⟩)(hc:eY K cdv q=true)(kp:cG K (.ref f)=true):GM K C m q st:=⟨f,(GK lk hc kp).imp λ_ F=>⟨h,hf,F⟩⟩
end
theorem all_mk{l:fS}{w:ao}{K:aj}{h:Heap}{mg:Str->Option aa}{fa:Addr}(X:K.In h)(Gn:h.Ns aG mg)(hfa:mg "law" = some (.ref fa)){C0 C1 C2 C3 C4 C5 C6 C7 C8 C9 C10 C11 C12 C13 C14 C15:Addr}(F:Fx K C0 C1 C2 C3 C4 C5 C6 C7 C8 C9 C10 C11 C12 C13 C14 C15):
  ∃fd:bu,(∀(s:ae) (v:aa),fi s fd ⟨[v],[]⟩ [("_law_script", v)])/\∀base:Heap,K.In base->base.Ns aG mg->qD l.prog w K mg base CX0 16 fa fd ["_law_script"] (Dt K):=by
 have gen:∃B:Bg,B.K=K/\B.ca 0=C0/\B.ca 1=C1/\B.ca 2=C2/\B.ca 3=C3/\B.ca 4=C4/\B.ca 5=C5/\B.ca 6=C6/\B.ca 7=C7/\B.ca 8=C8/\B.ca 9=C9/\B.ca 10=C10/\B.ca 11=C11/\B.ca 12=C12/\B.ca 13=C13/\B.ca 14=C14/\B.ca 15=C15:=⟨⟨K,λc=>[C0,C1,C2,C3,C4,C5,C6,C7,C8,C9,C10,C11,C12,C13,C14,C15].getD c 0⟩,rfl,rfl,rfl,rfl,rfl,rfl,rfl,rfl,rfl,rfl,rfl,rfl,rfl,rfl,rfl,rfl,rfl⟩;obtain⟨B,rfl,rfl,rfl,rfl,rfl,rfl,rfl,rfl,rfl,rfl,rfl,rfl,rfl,rfl,rfl,rfl,rfl⟩:=gen;have Z:∀base,Yx ⟨l.prog,w,mg,base,B⟩:=λbase=>⟨⟨h,X,Gn⟩,F⟩;obtain⟨f,fd,a,FF⟩:=F.q90;have e:=hfa.symm.trans (gO X Gn a);cases e;obtain⟨oc,od,kV,doc,pm,an,cdv,ct,osl,rfl,lk,hcd⟩:=FF.ex;exact⟨_,λs v=>.of_eq rfl,λbase _ _=>(Ft rfl rfl rfl FF (okk (N:=["_law_script", "_law_state", "_law_things_here", "_law_ways", "_law_verbs_here", "_law_menu", "_law_k", "_law_cell", "_law_sort", "_law_odd", "_law_some", "_law_at", "_law_like"]) (ps:=["_law_script"]) (np:=1) (n:=13) (by kernel_rfl)).1 ((@GH _ (Z base)).ok rfl _)).imp (Jo (G:=B))⟩
theorem walk{l:fS}{q:aq}{loose:List Str}{XP:(Str->Option aa)->Heap->Prop}{YP:ao->Heap->Prop}{d:DefRec}{K:fU->aj}(hn:l.most=some 63)(hdf:d.params.defaults=[])
  (hY:∀(w:ao) (h:Heap),YP w h->(K w.params).In h)
  (F:∀(w:ao) (mg:Str->Option aa) (fa:Addr) (h:Heap),(K w.params).In h->h.Ns aG mg->mg d.name=some (.ref fa)->
   ∃fd:bu,(∀(s:ae) (u:aa),fi s fd ⟨[u],[]⟩ [("_law_script", u)])/\∀base:Heap,(K w.params).In base->base.Ns aG mg->qD l.prog w (K w.params) mg base CX0 16 fa fd ["_law_script"] (Dt (K w.params))):
  W.WalkO q loose XP YP l.row.toRowW d [] (λf vs=>i6 f vs):=
 L2.Hm (n:=63) (k:=16) (x:="_law_script") (CX:=λ_=>CX0) (sp:=λw=>Dt (K w.params)) hn (by decide) hdf ⟨rfl,by decide,by decide⟩ hY F (λ_ _ a ns hl _ hS=>⟨a,ns,rfl,hS,hl,λ_=>rfl⟩) λ_ _ _ _ _ z=>z
end K08x
set_option maxHeartbeats 0
open PySem PySem.W PyProof.Rows
theorem PySem.Challenge.cw_tellworld_k08_verbs_that_are_none_holds : PySem.Challenge.rw_tellworld_k08_verbs_that_are_none.Holds := by
 refine hd ?_
 k_fill
 refine K08x.walk (l:=PySem.Challenge.rw_tellworld_k08_verbs_that_are_none) rfl rfl (λw h Y=>Y) ?F
 case F=>
  intro w mg fa h KX G hmg;refine' K08x.all_mk KX G hmg ?Q
  case Q=>
   constructor
   all_goals as_aux_lemma=>first
   |k_is
   |kernel_rfl
   |(show W.excIn _ _ _ _=true;first|k_exc|k_is|kernel_rfl)
   |exact⟨⟨⟨by k_is,by k_is,by k_is,by k_is⟩,by k_is,by k_is,by k_is,by k_is⟩,by k_is,by k_is,by kernel_rfl⟩
   |exact⟨_,by k_is⟩
   |exact K08x.gd_mk (by k_is) (by k_is) (by k_is) (by k_is)
   |exact K08x.gm_mk (by k_is) (by k_is) (by k_is) (by k_is) (by k_is)
   |exact⟨_,_,_,_,by k_is,by k_is,by rfl,by rfl,by simp,by repeat' first|exact .nil|exact .cons rfl .nil|refine .cons rfl ?_⟩
   |exact⟨_,_,_,_,[_],_,by k_is,by k_is,⟨⟨_,_,_,_,_,_,_,_,_,rfl,by k_is,by k_is⟩,by k_is⟩,by k_is,by rfl,.cons (by first|rfl|exact⟨_,rfl⟩) .nil⟩
   |exact⟨_,_,_,_,[_,_,_],_,by k_is,by k_is,⟨⟨_,_,_,_,_,_,_,_,_,rfl,by k_is,by k_is⟩,by k_is⟩,by k_is,by rfl,.cons (by first|rfl|exact⟨_,rfl⟩) (.cons (by first|rfl|exact⟨_,rfl⟩) (.cons (by first|rfl|exact⟨_,rfl⟩) .nil))⟩
end
