import PyProof.Rows.All
import Open.Pieces
import OpenK.KLine
import PySem.Challenge.RW_tellworld_k07_marks_and_ways_that_are_no
import Wide.All
import OpenK.AllK
import Wide.FinOn
import PyProof.EqAt
import PyProof.EqKinds
import PyProof.TupleCall
import PyProof.StrWalks
import PyProof.ConsumeWalk
import PyProof.NeKinds
import PyProof.Rows.SetFrom
import KE.KIsAll
import PyProof.WalksMore
import PyProof.TupleKey
import PyProof.DictWalks
import PyProof.Rows.ZipGen
import KE.KDictLaws
import PyProof.DictItems
import KE.KSortTup
import PyProof.TupleOfSeq
import PyProof.Rows.SortStr
import PyProof.Rows.StrInSeq3
import PyProof.TupleIter
import KE.KDictOf
import PyProof.CollectWalk
import PyProof.Rows.SeqMore
set_option genSizeOf false
local macro_rules (kind:=Lean.Parser.Command.declaration)|s=>do
 if s.getPos?.isNone||s[1][1][0].getId.getRoot== `PySem then Lean.Macro.throwUnsupported
 let s:=s.rewriteBottomUp (·.setInfo .none)
 if s[1].getKind∈[``Lean.Parser.Command.definition,``Lean.Parser.Command.abbrev,``Lean.Parser.Command.instance]&&s[0][4].isNone then
  return s.setArg 0 (s[0].setArg 4 (Lean.mkNullNode #[Lean.Syntax.node .none ``Lean.Parser.Command.noncomputable #[Lean.mkAtom "noncomputable"]]))
 return s
set_option compiler.extract_closed false
noncomputable section
open List renaming length_map->af,length_append->aw,mem_cons_of_mem->aG,mem_cons_self->aE,getElem?_eq_getElem->aP,length_cons->aD,all_eq_true->aK,mem_map->az,mem_map_of_mem->aR,getElem?_eq_some_iff->bj,mem_singleton->aU,map_cons->aF,mem_append_right->ba,size_toArray->aS,mem_append->aN,mem_append_left->bb,getElem?_map->aZ,length_singleton->br,mem_cons->aO,mem_of_getElem?->bz,length_take->bf,map_append->bg,append_nil->bh,length_replicate->bO,getElem?_set->bC,map_map->aY,append_assoc->bD,nodup_append->bG,getElem?_append_left->ck,range->aV,getElem?_append_right->cH,mem_filter->bF,mem_range->bH,mem_of_mem_take->cM,filterMap_cons->cN,length_nil->b8,nil_append->b9,length_drop->cu,any_eq_true->cv,length->bM,getElem?_drop->cU,foldl_cons->cy,length_range->cW,zip_cons_cons->du,mem_iff_getElem->dP,nodup_cons->cY,length_set->cZ,lookup_cons->dw,not_mem_nil->dy,mem_of_mem_drop->eC,getElem?_replicate->fj,find?_cons->dD,zipWith_cons_cons->fo,lookup->cA,all_cons->c8,getElem_mem->dR,mem_filterMap->eD,getD_eq_getElem?_getD->fW,length_filter_le->fq,getElem?_set_self->fY,take_of_length_le->fZ,any_cons->d5,getElem?_eq_none->f6,take_sublist->fD,perm_append_singleton->gS,map_nil->d7,zipWith->ee,drop_eq_getElem_cons->gU,sublist_append_right->gV,sublist_append_left->gW,length_zip->fJ,getElem?_cons_succ->gX,replicate->fK,getElem?_toArray->gZ,filter_cons->gj,map_take->fN,getElem?_set_ne->hE,of_mem_zip->gm,getElem?_range->hJ,length_zipWith->hU,getElem_of_mem->hX,nodup_nil->gp,pairwise_iff_getElem->jd,foldl_append->ip,map_id->fQ,flatMap_cons->iq,getElem_inj->ir,getElem?_cons_zero->jh,cons_append->iy,drop_eq_nil_of_le->jo,all_map->gx,contains_iff_mem->ju,take_append_drop->jw,filterMap_append->jx,pairwise_append->jB,filter_eq_self->jE,length_pos_iff->jF,map_congr_left->jG,map_drop->iH,contains_cons->jM,ext_getElem?->jS,take_add_one->jW,pairwise_map->jY,nodup_range->ka,mem_flatMap->kc,zip_append->kj,drop_nil->kJ,rec->lu,map->ly
open PySem renaming Value->aa,Shared->ae,wpAny_bind->au,starEach->aq,mainGlobals->aJ,wpAny_pure->aC,Program->ar,sizeLine->ay,wpAny->ah,Around->av,World->ao,compareOp->aW,Spec->ng,wpAny_mono->bx,wpAny_truthy_bool->cp,FuncData->bo,SetTable->bp,wpAny_Call_Name_kw->dq,backTo->aX,assignEach->bR,bootBuiltins->cO,wpAny_holding->c7,sizeLine_eq->cz,swapsWith->bX,sysModules->cD,mem_of_lookup->fz,keywordEach->df,letOwnedTupleGo->eG,codeAny_builtin->eI,behindInMarks->dY,attributeBase->dZ,wpAny_pyIter_list->fB,foldedSetIterable->fC,codeAny->bS,ofAClassStatement->fE,wpAny_setState_of->fG,codeAny_mono->d6,binaryOp->cF,wpAny_execs_nil->fH,wpAny_passesOwn->fI,NameKind->cP,wpAny_pyIter_tuple->ib,Scope->bT,plainId_quiet->gq,GenState->eA,wpAny_execs_cons->iu,wpAny_forIn_list->iw,Paired->eV,Result->cR,wpAny_isTrue_Compare1->js,wpAny_eqIsQuiet_tuple->jv,carriedByValue->iC,wpAny_standAt->iF,wpAny_call->gB,tupleKind_room_in1->jL,Within->iJ,BindsTo->eX,seqIndex_neg->iO,slot_list_getitem->jU,Keyword->eY,wpAny_storeSet_of->j1,noFill_tuple_add->j5,seqIndex_of->iW,wpAny_specialOf->kg,codeAny_of_tree->kl,wpAny_Name->iZ,wpAny_Expr_any->ku,Operator->gH,PlainAttrs->i5,call_meets->i6,call->i7,wpAny_seqItems->kx,isSubtype_type->ky,boot_len->kA,intBits_le_64->kE,seq_tuple_add->kG,evalPart_none->kH,call_list_seq->kI,CmpOp->eB,Params->fU,SetFound->jb
open PySem.Heap renaming get?_push_of_some->aL,lt_size->aI,get?_push_size->bA,size_push->eK,SameBut->eO,get?_update_other->jk,get?_update_self->jt,MadeExcOf->kC,FlyingW->kY
open Bool renaming and_eq_true->aB,false_ne_true->bc,not_eq_true'->cq,and_false->c6,eq_iff_iff->dB,or_eq_true->dX,false_eq_true->fA,eq_false_iff->fF,false_and->gn,or_eq_false_iff->jz,not_eq_true->j9,true_and->kO,rec->ja
open Nat renaming le_refl->aA,ne_of_lt->aT,le_of_ble_eq_true->bU,lt_of_lt_of_le->bJ,le_trans->bw,zero_le->bW,lt_succ_of_lt->dv,le_of_lt_succ->dQ,lt_succ_self->dS,succ_pos->c9,lt_irrefl->dE,ble_eq->cE,ble->bZ,mod_lt->dG,zero_add->eL,le_add_right->gk,min_self->fO,sub_self->fP,lt_of_le_of_lt->ie,min_le_right->ix,le_of_lt->gr,lt_trans->gw,le_succ->gz,add_right_comm->jH,lt_or_eq_of_le->jQ,ne_of_gt->iK,lt_trichotomy->jX,le_of_not_lt->j7,min_eq_left->ko,beq->fS,le_of_eq->kQ,lt_or_ge->kW,pow_succ->kX
open PySem.W renaming Frag->aj,kia_one->bY,emptyDict->dc,findIn->cg,kitOne->cj,keepIn->cG,instObj->dH,callWith_K->gu,fnOf->dh,codeIn->eW,plainGet_of->iG,plainGet->gA,OpenLaw->fR,hideAll_get->iP,cellsFrom_some->j4,methodObj->iQ,hasDictIn->iR,kitx_list->iU,kitx_dict->iV,of_hideAll->iY,methodCall_KW->kh,lookIn->gO,nsIn->eZ,callWith_K0->kF,takerIn->i9,kitx_tuple->kR,mg_of->gQ,plainOver->lb,specialIn->lg,isFn->gR
open Array renaming getElem?_toList->bI,length_toList->bP,getElem?_eq_getElem->dj,getD_eq_getD_getElem?->dM,getElem?_eq_some_iff->fV,size_setIfInBounds->jg,toList_filterMap->jr,replicate->iA,forIn_toList->jN,toList_push->j2,size_map->kB,toList->kP
open PySem.SetTable renaming below->bu,turns->bB,insertAt->bV,runEnd->bL,Probe->cf,bits->cb,advance->eF,grown->fL,insertAt_perm->gY,fits->fM,fill->iI,sizeAbove->jR,layClean->jZ,slot->kK,leap->kM,laid->kN,has->kU
open Int renaming eq_ofNat_of_zero_le->cI,emod_lt_of_pos->eE,emod_nonneg->eJ,toNat_natCast->il
open PySem.SetTable.layClean renaming free->cJ
open Option.some renaming inj->bQ,injEq->jV
open PyProof.Rows.F renaming plain_set_update_loop->dN,entry_set_update_loop->fX
open PySem.SetTable.probe renaming go->cX
open Prod renaming fst->bq,snd->dg
open False renaming elim->bN
open PySem.Builtin.List renaming listTooLong->fi
open Option renaming map_some->dU,getD_none->gh,map_eq_some_iff->jn,getD_some->j8
open PySem.Around renaming under_plainId->fw,under->iM
open PySem.F renaming called_set->dF,slot_list_extend->f9,plainAttrs_list->gb,slot_list_append->ic,slot_dict_setdefault->jq,args_list_extend_2->jy,sub_list_frozenset->jA,excBase_ValueError->jC,entry_list_extend->jD,args_tuple_add_2->jK,type_list_append->jO,type_list_extend->jP,entry_tuple_add->jT,slot_tuple_add->j6,plain_set_new->km,sub_list_set->kz
open PySem.Calls renaming spliced_cons->f7,evalArgs_plain->hG,Name_function_global->jc,spliced_nil->ik,callWith_builtin->jm
open Nat.succ renaming inj->eR
open PySem.SetTable.below renaming go->gf
open PySem.Heap.SameBut renaming update->ia
open PyProof.Rows renaming AllBare->cQ,subscriptTail_builtinR->ji,boot_isinstance->kn,IntsAre->fT,Subscript_->i4
open PySem.Obj renaming mapSeq->eS,putSet->i8
open PySem.SeqAt.EqAt renaming of_refs->ig,same->iz,int_str->jI,str_int->jJ,tuple_none->mh,tuple_bool->mi,tuple_list->mj,list_tuple->ml,none_tuple->mm,bool_tuple->mr,none_bool->mx,bool_none->my,bool_bool->mB,tuple_int->mC,tuple_str->mD,list_none->mE,list_bool->mF,none_list->mG,bool_list->mH,int_tuple->mI,str_tuple->mJ,none_int->mK,none_str->mL,bool_int->mM,bool_str->mP,int_none->mQ,int_bool->mR,str_none->mS,str_bool->mT,list_int->mU,list_str->mV,int_list->mW,str_list->mX,int_int->m3,str_str->m4
open Classical renaming byContradiction->je
open PySem.AutoSeq1 renaming wpAny_loadPart'->jf
open LawfulBEq renaming eq_of_beq->eU
open Ne renaming symm->dJ
open Sum.inr renaming inj->gy
open PySem.Paired renaming length->iE,snoc->lj
open PySem.SeqAt renaming EqAt->gE
open PySem.Walks renaming list->gG,tuple->lp
open PySem.Code renaming isFrame->iN,frames->lh
open List.Sublist renaming refl->j3
open PySem.Moved renaming trans->iX
open PySem.Builtin.Frozenset renaming updateFrom->lA,newClass->lD
open List.cons renaming injEq->kq
open PySem.PassesOwn renaming never->kr
open PySem.SeqAt.RcNeAt renaming lists_lengths->lC,tuples->mY,lists->m5
open PySem.EqNone renaming eq_none_none->lE,eq_none_bool->lF,eq_bool_none->lG,ne_none_none->lL,ne_none_bool->lN,ne_bool_none->lQ,eq_none_int->lW,eq_none_str->lX,eq_int_none->lY,eq_str_none->l0,ne_none_int->l4,ne_none_str->l5,ne_int_none->l6,ne_str_none->l8
open PySem.EqMixed renaming eq_bool_str->lI,eq_str_bool->lK,ne_bool_str->lS,ne_str_bool->lV,eq_int_str->lZ,eq_str_int->l3,ne_int_str->l7,ne_str_int->l9
open PySem.Value renaming isStrOf->kD,isInt->la
open PySem.SeqAt.RcAt renaming lists_lengths->md,tuples->m7,lists->m8
open PySem.Builtin.Range renaming rangeSize->mf
open PySem.Pv renaming boot_list->kT,boot_int->lq
open List.Pairwise renaming sublist->mw
open Prod.mk renaming inj->kZ
open PySem.Heap.IsSliceOf renaming new->mZ
open PySem.W.WShape renaming has->lr
open PySem.Within renaming cons->m6
open PySem.Heap.DictOf renaming new->m9
def aH:=@decide_eq_true
def ag:=@if_pos
def ai:=@if_neg
def aQ:=@decide_eq_false
def ak:=@absurd
def bE:=@decide_eq_true_eq
def bK:=@of_decide_eq_true
def aM:=@congrArg
set_option Elab.async false
set_option linter.all false
namespace L5
open PySem PySem.W
noncomputable def pick(l:List Obj):Nat->List Addr->List Obj:=
 @lu Obj (λ_=>Nat->List Addr->List Obj) (λ_ _=>[])
  (λo _ ih i as=>@lu Addr (λ_=>List Obj) [] (λa r _=>@ja (λ_=>List Obj) (ih (Nat.succ i) as) (o::ih (Nat.succ i) r) (fS a i)) as) l
theorem EL(i:Nat)(as:List Addr):pick [] i as=[]:=rfl
theorem Hg(o:Obj)(l:List Obj)(i:Nat)(r:List Addr):pick (o::l) i (i::r)=o::pick l (i+1) r:=by show @ja (λ_=>List Obj) _ _ (fS i i)=_;rw[Nat.beq_refl];rfl
theorem Hh(o:Obj)(l:List Obj)(i a:Nat)(r:List Addr)(h:a≠i):pick (o::l) i (a::r)=pick l (i+1) (a::r):=by
 show @ja (λ_=>List Obj) _ _ (fS a i)=_;have:fS a i=false:=by
  cases q:fS a i with
  |false=>rfl
  |true=>exact ak (Nat.eq_of_beq_eq_true q) h
 rw[this];rfl
theorem zG:∀(l:List Obj) (i:Nat) (as:List Addr),(pick l i as).length=as.length->∀j (hj:j<as.length),∃b,as[j]=i+b/\l[b]?=(pick l i as)[j]?
 |[],i,as,h,j,hj=>by rw[EL]at h;simp at h;omega
 |o::l,i,[],h,j,hj=>by simp at hj
 |o::l,i,a::r,h,j,hj=>by
  by_cases q:a=i
  ·subst q;rw[Hg]at h ⊢;cases j with
   |zero=>exact⟨0,rfl,rfl⟩
   |succ j=>obtain⟨b,e1,e2⟩:=zG l (a+1) r (by simpa using h) j (by simpa using hj);exact⟨b+1,by rw[List.getElem_cons_succ,e1];exact jH a 1 b,by simpa using e2⟩
  ·rw[Hh _ _ _ _ _ q]at h ⊢;obtain⟨b,e1,e2⟩:=zG l (i+1) (a::r) h j hj;exact⟨b+1,by rw[e1];exact jH i 1 b,by simpa using e2⟩
def live(o:Obj):Bool:=match o with|⟨_,_,.freed,_⟩=>false|_=>true
theorem Hk{h:Heap}{as:List Addr}{K:Frag}(e:as=K.map (·.1))(x:(pick h.objs.toList 0 as,K.all λp=>live p.2)=(K.map (·.2),true)):K.In h:=by
 obtain⟨x1,x2⟩:=kZ x;refine Frag.in_of e (jS λj=>?_);rw[aZ,aZ];by_cases hj:j<as.length
 ·have hl:(pick h.objs.toList 0 as).length=as.length:=by rw[x1,e,af,af]
  obtain⟨b,e1,e2⟩:=zG _ _ _ hl j hj;have hk:j<K.length:=by rw[e,af]at hj;exact hj
  rw[aP hj,aP hk,dU,dU,e1,eL];have e3:h.objs[b]?=some (K[j].2):=by rw[<-bI,e2,x1,aZ,aP hk];rfl
  have lv:live K[j].2=true:=aK.mp x2 _ (dR hk);refine aM some ?_;unfold Heap.get?;rw[e3];revert lv;cases K[j].2 with
  |mk c d data sl=>cases data<;>intro lv<;>first|rfl|cases lv
 ·rw[f6 (by omega),f6 (by rw[e,af]at hj;omega)];rfl
noncomputable def N2(K:fU->Frag) (as:List Addr) (e:∀P,as=(K P).map (·.1)):Hook:=
 ⟨List Obj×Bool,λs=>(pick s.heap.objs.toList 0 as,true),λw=>((K w.params).map (·.2),(K w.params).all λp=>live p.2),InK K,λw s x=>Hk (e w.params) (by
  obtain⟨x1,x2⟩:=kZ x;rw[x1,<- x2]),InK.keeps⟩
end L5
section
open PySem PySem.W PyProof.Rows
local macro_rules|`(tactic|o_head ($f:ident $k $as $e))=>`(tactic|o_head ((L5.N2 $k $as (fun _=>by kernel_rfl)):W.Hook))
local macro_rules|`(command|#where)=>do
 let mut r:=#[]
 for n in [43:1539] do
  let x:=Lean.mkIdent (.mkSimple s!"tw{((Lean.Name.mkSimple "hd").str s!"o_{n}").hash}")
  r:=r.push ((<-`(command|noncomputable def $x:ident:=0)).raw.rewriteBottomUp (·.setInfo .none))
 return Lean.mkNullNode r
noncomputable section
namespace PySem.W.Fast
def tw17044022810323912764:=0
def tw16100691501515759841:=0
def tw8600003543474550401:=0
def tw11899693301848689474:=0
def tw2195466600730450949:=0
def tw14335442591911757157:=0
def tw14575388751658381831:=0
def tw16380965088707415623:=0
def tw8169806428440432713:=0
def tw10374632558016547081:=0
def tw12063338694597119625:=0
def tw4482195144902030091:=0
def tw938635154573522699:=0
def tw4260957879368936235:=0
def tw1348686238360321804:=0
def tw7774113678449685934:=0
def tw4891155283279915023:=0
def tw280917380089993231:=0
def tw13342595474641073200:=0
def tw15853837366616553680:=0
def tw10772888853195510384:=0
def tw13274997305513706577:=0
def tw861502493610598483:=0
def tw1179633367757178035:=0
def tw13169389602587208947:=0
def tw2255770438638334868:=0
def tw2180074184251216150:=0
def tw1658382015597488694:=0
def tw2711973275048833399:=0
def tw12620873455715996183:=0
def tw17322059916419148152:=0
def tw8161656369779717402:=0
def tw10257955065651855134:=0
def tw2964640727653848319:=0
def tw7478123994339007903:=0
def tw1296790758570689965:=0
def tw4043706138742882717:=0
def tw11156245012059776263:=0
def tw14093639371245587692:=0
def tw15181078141257973585:=0
def tw472026066189085614:=0
def tw4605971472053405522:=0
def tw10294078964567370430:=0
def tw13823908486322433141:=0
def tw3671849953146318479:=0
def tw14151252239970057569:=0
def tw8387090941293194387:=0
def tw13857218912954019169:=0
def tw9296065175928017463:=0
#where
end PySem.W.Fast
end
set_option maxRecDepth 100000 in
set_option maxHeartbeats 0 in
open_top hd for PySem.Challenge.rw_tellworld_k07_marks_and_ways_that_are_no
end
set_option maxRecDepth 100000
namespace L2
open PySem PySem.Spec PyProof.Rows
abbrev Key:=Sum Int Str
def yV:Key->aa->Bool
 |.inl k,v=>la k v
 |.inr x,v=>kD x v
def PQ(w:ao):Key->Int
 |.inl k=>hashInt k
 |.inr x=>hashStr w x
theorem oI:∀{k:Key} {v:aa},yV k v=true->(∃i t,k=Sum.inl i/\v=Value.int i t)\/(∃x t,k=Sum.inr x/\v=Value.str x t)
 |.inl i,v,h=>by obtain⟨t,e⟩:=Value.isInt_shape (k:=i) (v:=v) h;exact .inl ⟨i,t,rfl,e⟩
 |.inr x,v,h=>by obtain⟨t,e⟩:=Value.isStrOf_shape (x:=x) (v:=v) h;exact .inr ⟨x,t,rfl,e⟩
theorem DM(i:Int)(t:Tok):yV (.inl i) (.int i t)=true:=by simp[yV,la]
theorem DN(x:Str)(t:Tok):yV (.inr x) (.str x t)=true:=by simp[yV,kD]
theorem Ks(a b:Int):decide ((Sum.inl a:Key)=Sum.inl b)=(a==b):=by
 by_cases e:a=b
 ·subst e;simp
 ·have h:¬(Sum.inl a:Key)=Sum.inl b:=λq=>e (Sum.inl.inj q);rw[aQ h];exact(beq_eq_false_iff_ne.mpr e).symm
theorem Kt(a b:Str):decide ((Sum.inr a:Key)=Sum.inr b)=decide (a=b):=by
 by_cases e:a=b
 ·subst e;simp
 ·have h:¬(Sum.inr a:Key)=Sum.inr b:=λq=>e (gy q);rw[aQ h,aQ e]
theorem Ku(a:Int)(b:Str):decide ((Sum.inl a:Key)=Sum.inr b)=false:=aQ (λq=>nomatch q)
theorem Kv(a:Str)(b:Int):decide ((Sum.inr a:Key)=Sum.inl b)=false:=aQ (λq=>nomatch q)
def nT(prog:ar)(w:ao):PySem.KeyKind prog w Key where
 is:=yV
 hash:=PQ w
 inj:=λv a b ha hb=>by
  rcases oI ha with ⟨i,t,rfl,rfl⟩|⟨x,t,rfl,rfl⟩
  ·rcases oI hb with ⟨j,u,rfl,e⟩|⟨y,u,rfl,e⟩
   ·injection e with e1 _;rw[e1]
   ·exact nomatch e
  ·rcases oI hb with ⟨j,u,rfl,e⟩|⟨y,u,rfl,e⟩
   ·exact nomatch e
   ·injection e with e1 _;rw[e1]
 byValue:=λk v h=>by rcases oI h with ⟨i,t,rfl,rfl⟩|⟨x,t,rfl,rfl⟩<;>rfl
 pyHash:=λhv h=>by
  rcases oI hv with ⟨i,t,rfl,rfl⟩|⟨x,t,rfl,rfl⟩
  ·exact wpAny_pyHash_int h
  ·exact wpAny_pyHash_str h
 eqBool:=λhu hv h=>by
  rcases oI hu with ⟨i,t,rfl,rfl⟩|⟨x,t,rfl,rfl⟩
  ·rcases oI hv with ⟨j,u,rfl,rfl⟩|⟨y,u,rfl,rfl⟩
   ·rw[Ks]at h;exact wpAny_eqBool_int h
   ·rw[Ku]at h;exact jI i t y u _ _ _ _ h
  ·rcases oI hv with ⟨j,u,rfl,rfl⟩|⟨y,u,rfl,rfl⟩
   ·rw[Kv]at h;exact jJ x t j u _ _ _ _ h
   ·rw[Kt]at h;exact wpAny_eqBool_str h
 «strs»:=λk x t v h=>by
  rcases oI h with ⟨i,u,rfl,e⟩|⟨y,u,rfl,e⟩
  ·exact nomatch e
  ·injection e with e1 _;subst e1;cases v<;>rfl
theorem AE(prog:ar)(w:ao)(i:Int)(t:Tok):(nT prog w).is (.inl i) (.int i t)=true:=DM i t
theorem AF(prog:ar)(w:ao)(x:Str)(t:Tok):(nT prog w).is (.inr x) (.str x t)=true:=DN x t
inductive V where
 |non|bl (b:Bool)|int (i:Int)|str (x:Str)|byt (b:Array UInt8)|flt (b:UInt64)|ref (a:Addr)|ty (n:String)
 deriving DecidableEq
def RelV:V->aa->Prop
 |.non,u=>u=Value.none
 |.bl b,u=>u=Value.bool b
 |.int i,u=>∃t,u=Value.int i t
 |.str x,u=>∃t,u=Value.str x t
 |.byt b,u=>∃t,u=Value.bytes b t
 |.flt b,u=>∃t,u=Value.float b t
 |.ref a,u=>u=Value.ref a
 |.ty n,u=>u=Value.type n
abbrev Vals:List V->List aa->Prop:=eV RelV
variable{us:List aa}
theorem Vals.length{xs:List V}(r:Vals xs us):xs.length=us.length:=iE r
theorem Vals.get:∀{xs:List V} {us:List aa} {i:Nat} {x:V},Vals xs us->xs[i]?=some x->∃u,us[i]?=some u/\RelV x u
 |_,_,_,_,.nil,e=>by simp at e
 |_,_,0,_,.cons r _,e=>by simp at e;subst e;exact⟨_,rfl,r⟩
 |_,_,i+1,x,.cons _ t,e=>by obtain⟨u,h1,h2⟩:=Vals.get (i:=i) (x:=x) t (by simpa using e);exact⟨u,by simpa using h1,h2⟩
variable{u:aa}
theorem Vals.set{x:V}(r:RelV x u):∀{xs:List V} {us:List aa} (i:Nat),Vals xs us->Vals (xs.set i x) (us.set i u)
 |_,_,_,.nil=>.nil
 |_,_,0,.cons _ t=>.cons r t
 |_,_,i+1,.cons q t=>.cons q (Vals.set r i t)
theorem Vals.append:∀{xs ys:List V} {us ws:List aa},Vals xs us->Vals ys ws->Vals (xs++ys) (us++ws)
 |_,_,_,_,.nil,s=>s
 |_,_,_,_,.cons r t,s=>.cons r (Vals.append t s)
theorem Vals.take:∀{xs:List V} {us:List aa} (n:Nat),Vals xs us->Vals (xs.take n) (us.take n)
 |_,_,0,_=>.nil
 |_,_,_+1,.nil=>.nil
 |_,_,n+1,.cons r t=>.cons r (Vals.take n t)
theorem Vals.drop:∀{xs:List V} {us:List aa} (n:Nat),Vals xs us->Vals (xs.drop n) (us.drop n)
 |_,_,0,r=>r
 |_,_,_+1,.nil=>.nil
 |_,_,n+1,.cons _ t=>Vals.drop n t
def uK:Option V->Option aa->Prop
 |some v,some u=>RelV v u
 |none,none=>True
 |_,_=>False
def KV{κ:Type}:List (κ×V)->List (κ×aa)->Prop:=eV λ(p:κ×V) (q:κ×aa)=>p.1=q.1/\RelV p.2 q.2
def kV:Key->V
 |.inl i=>.int i
 |.inr x=>.str x
inductive HO where
 |lst (xs:List V)
 |tup (xs:List V)
 |dK (kvs:List (Key×V))|dT (kvs:List (List Key×V))
 |set (S:Int->Bool) (n:Nat)
 |ins (C dx:Addr) (fs:List (Str×V))
 |own (x:Addr)
 |xd (fs:List (Str×V))
 |met (f x:Addr)
 |rng (lo hi:Int)
 |frz (o:Obj) (u:HO)
 |tbl (ps:Array aa)
 |ext (φ:Heap->Prop)
abbrev Hp:=Addr->Option HO
def upd(H:Hp)(a:Addr)(o:HO):Hp:=λb=>if b=a then some o else H b
variable{a:Addr}{o:HO}
theorem nI{H:Hp}:upd H a o a=some o:=by unfold upd;rw[ag rfl]
variable{b:Addr}
theorem nH{H:Hp}(h:b≠a):upd H a o b=H b:=by unfold upd;rw[ai h]
theorem N3{H:Hp}{u:HO}(h:H a=some o)(h':H b=some u)(d:o≠u):a≠b:=by intro e;subst e;rw[h]at h';exact d (bQ h')
theorem o3{H:Hp}(h:H a=some o)(h':H b=none):a≠b:=by intro e;subst e;rw[h]at h';cases h'
section
variable(P:ar)(w:ao)
def oP(H:Hp)(h:Heap)(a:Addr):HO->Prop
 |.lst xs=>xs.length<=ay/\∃(its:List aa) (n:Nat),Vals xs its/\h.get? a=some { cls:=.type "list", data:=.seq its.toArray n }
 |.tup xs=>xs.length<=ay/\∃its:List aa,Vals xs its/\IsTup h a its.toArray
 |.dK kvs=>kvs.length<=ay/\(a==cD)=false/\∃vs,KV kvs vs/\h.DictOf (nT P w) a vs
 |.dT kvs=>kvs.length<=ay/\(a==cD)=false/\∃xs:List (List Key×Addr×aa),
   eV (λ(p:List Key×V) (q:List Key×Addr×aa)=>p.1=q.1/\H q.2.1=some (.tup (p.1.map kV))/\RelV p.2 q.2.2) kvs xs/\
   ∃o es ep,h.get? a=some o/\o.ExactDict/\o.data=.dict es ep/\es.toList=xs.map (entryOfKey (tupleKind (nT P w)))/\(xs.map (·.1)).Nodup
 |.set S n=>h.SetOf (intKind P w) a S n
 |.ins C dx fs=>H dx=some (.own a)/\fs.length<=1000/\dx≠a/\h.get? a=some (dH C dx)/\
   ∃mA,h.Ns1 dx mA/\(∀f,uK (fs.lookup f) (mA f))/\iJ mA (fs.map (·.1))
 |.own _=>∃o,h.get? a=some o
 |.xd fs=>∃mA,h.Ns1 a mA/\∀f,uK (fs.lookup f) (mA f)
 |.rng lo hi=>∃t u v,h.get? a=some { cls:=.type "range", data:=.fields #[.int lo t,.int hi u,.int 1 v] }
 |.frz o u=>h.get? a=some o/\oP H h a u
 |.tbl ps=>h.get? a=some { cls:=.none,data:=.fields ps }
 |.met f x=>h.get? a=some (iQ (.ref f) (.ref x))
 |.ext φ=>φ h/\(∃o,h.get? a=some o)/\∀h1 h2:Heap,φ h1->(∀o,h1.get? a=some o->h2.get? a=some o)->φ h2
def HOk(H:Hp)(h:Heap):Prop:=∀a o,H a=some o->oP P w H h a o
end
section
variable{P:ar}{w:ao}{H H':Hp}{h h':Heap}{a:Addr}{o:HO}
theorem oP.lt(x:oP P w H h a o):a<h.objs.size:=by
 cases o with
 |lst xs=>obtain⟨_,_,_,_,e⟩:=x;exact aI e
 |tup xs=>obtain⟨_,_,_,p⟩:=x;exact p.lt
 |dK kvs=>obtain⟨_,_,_,_,o,_,_,e,_⟩:=x;exact aI e
 |dT kvs=>obtain⟨_,_,_,_,o,_,_,e,_⟩:=x;exact aI e
 |set S n=>obtain⟨o,_,_,_,e,_⟩:=x;exact aI e
 |ins C dx fs=>obtain⟨_,_,_,e,_⟩:=x;exact aI e
 |own y=>obtain⟨_,e⟩:=x;exact aI e
 |xd fs=>obtain⟨_,⟨_,_,_,e,_⟩,_⟩:=x;exact aI e
 |rng lo hi=>obtain⟨_,_,_,e⟩:=x;exact aI e
 |frz ob u=>obtain⟨e,_⟩:=x;exact aI e
 |tbl ps=>exact aI (show h.get? a=some _ from x)
 |met f y=>exact aI (show h.get? a=some _ from x)
 |ext φ=>obtain⟨_,⟨_,e⟩,_⟩:=x;exact aI e
theorem Paired.mapP{α β:Type}{F G:α->β->Prop}:∀{l₁:List α} {l₂:List β},eV F l₁ l₂->(∀a b,F a b->G a b)->eV G l₁ l₂
 |_,_,.nil,_=>.nil
 |_,_,.cons r t,f=>.cons (f _ _ r) (Paired.mapP t f)
theorem oP.stay(x:oP P w H h a o)(k:∀b u,(b=a\/H b=some (.own a))->h.get? b=some u->h'.get? b=some u)
  (ho:∀b,H b=some (.own a)->H' b=some (.own a)) (ht:∀b xs,H b=some (.tup xs)->H' b=some (.tup xs)):oP P w H' h' a o:=by
 induction o with
 |lst xs=>obtain⟨z,its,n,r,e⟩:=x;exact⟨z,its,n,r,k _ _ (.inl rfl) e⟩
 |tup xs=>obtain⟨z,its,r,ob,e,c⟩:=x;exact⟨z,its,r,ob,k _ _ (.inl rfl) e,c⟩
 |dK kvs=>obtain⟨z,y,vs,r,ob,es,ep,e,c⟩:=x;exact⟨z,y,vs,r,ob,es,ep,k _ _ (.inl rfl) e,c⟩
 |dT kvs=>obtain⟨z,y,xs,r,ob,es,ep,e,c⟩:=x;exact⟨z,y,xs,Paired.mapP r λp q z=>⟨z.1,ht _ _ z.2.1,z.2.2⟩,ob,es,ep,k _ _ (.inl rfl) e,c⟩
 |set S n=>obtain⟨ob,es,ep,t,e,c⟩:=x;exact⟨ob,es,ep,t,k _ _ (.inl rfl) e,c⟩
 |ins C dx fs=>obtain⟨d,z,ne,e,mA,⟨od,es,ep,e2,c⟩,r⟩:=x;exact⟨ho _ d,z,ne,k _ _ (.inl rfl) e,mA,⟨od,es,ep,k _ _ (.inr d) e2,c⟩,r⟩
 |own y=>obtain⟨ob,e⟩:=x;exact⟨ob,k _ _ (.inl rfl) e⟩
 |xd fs=>obtain⟨mA,⟨od,es,ep,e,c⟩,r⟩:=x;exact⟨mA,⟨od,es,ep,k _ _ (.inl rfl) e,c⟩,r⟩
 |rng lo hi=>obtain⟨t,u,v,e⟩:=x;exact⟨t,u,v,k _ _ (.inl rfl) e⟩
 |frz ob u ih=>obtain⟨e,q⟩:=x;exact⟨k _ _ (.inl rfl) e,ih q⟩
 |tbl ps=>have e:h.get? a=some { cls:=.none,data:=.fields ps }:=x;show h'.get? a=some { cls:=.none,data:=.fields ps };exact k a _ (.inl rfl) e
 |met f y=>have e:h.get? a=some (iQ (.ref f) (.ref y)):=x;show h'.get? a=some (iQ (.ref f) (.ref y));exact k a _ (.inl rfl) e
 |ext φ=>obtain⟨p,⟨o,e⟩,st⟩:=x;exact⟨st _ _ p λo q=>k _ _ (.inl rfl) q,⟨o,k _ _ (.inl rfl) e⟩,st⟩
theorem HOk.lt(x:HOk P w H h)(e:H a=some o):a<h.objs.size:=(x a o e).lt
theorem HOk.fresh(x:HOk P w H h)(e:h.objs.size<=a):H a=none:=by
 cases q:H a with
 |none=>rfl
 |some u=>exact ak (bJ (x.lt q) e) (dE _)
theorem HOk.kept(x:HOk P w H h)(k:∀b u,h.get? b=some u->h'.get? b=some u):HOk P w H h':=λa o e=>
 (x a o e).stay (λb u _ q=>k b u q) (λ_ q=>q) λ_ _ q=>q
theorem HOk.laid(x:HOk P w H h)(k:∀b u,h.get? b=some u->h'.get? b=some u)(hp:h.objs.size<=a)(new:oP P w (upd H a o) h' a o):HOk P w (upd H a o) h':=λb u e=>by
 have hn:=x.fresh hp;by_cases hb:b=a
 ·subst hb;rw[nI]at e;cases e;exact new
 ·rw[nH hb]at e;exact(x b u e).stay (λc v _ q=>k c v q) (λc q=>by rw[nH (o3 q hn)];exact q) λc xs q=>by rw[nH (o3 q hn)];exact q
end
def Rd(H:Hp)(a:Addr)(u:HO):Prop:=H a=some u\/∃o,H a=some (.frz o u)
theorem Rd.ok{P:ar}{w:ao}{H:Hp}{h:Heap}{u:HO}(r:Rd H a u)(x:HOk P w H h):oP P w H h a u:=by
 rcases r with r|⟨o,r⟩
 ·exact x a u r
 ·obtain⟨_,q⟩:=x a _ r;exact q
def Mut:Option HO->Prop
 |some (.lst _)=>True
 |some (.dK _)=>True
 |some (.dT _)=>True
 |some (.set _ _)=>True
 |some (.ins _ _ _)=>True
 |some (.ext _)=>True
 |_=>False
section
variable{P:ar}{w:ao}{H:Hp}{h h':Heap}{x e:Addr}{o':HO}
theorem HOk.write(ok:HOk P w H h)(mu:Mut (H x))(he:e=x\/H e=some (.own x))(k:∀b u,b≠e->h.get? b=some u->h'.get? b=some u)(heo:∃u,h'.get? e=some u)
  (new:oP P w (upd H x o') h' x o'):HOk P w (upd H x o') h':=λb u q=>by
 have nown:∀c y,H c=some (.own y)->c≠x:=λc y r z=>by subst z;rw[r]at mu;exact mu
 have ntup:∀c xs,H c=some (.tup xs)->c≠x:=λc xs r z=>by subst z;rw[r]at mu;exact mu
 by_cases hb:b=x
 ·subst hb;rw[nI]at q;cases q;exact new
 ·rw[nH hb]at q;by_cases hbe:b=e
  ·have q':H b=some (.own x):=by
    rcases he with z|z
    ·exact ak (hbe.trans z) hb
    ·rw[hbe];exact z
   rw[q]at q';cases q';obtain⟨v,hv⟩:=heo;exact⟨v,by rw[hbe];exact hv⟩
  ·refine(ok b u q).stay (λc v hc r=>k c v ?_ r) (λc r=>by rw[nH (nown c b r)];exact r) λc xs r=>by rw[nH (ntup c xs r)];exact r
   rcases hc with rfl|hc
   ·exact hbe
   ·rintro rfl;rcases he with z|z
    ·exact nown c b hc z
    ·rw[hc]at z;cases z;exact hb rfl
end
structure Un(fs ex:List Addr)(H H':Hp)(h h':Heap):Prop where
 keep:∀b o,h.get? b=some o->H b=none->b∉fs->b∉ex->h'.get? b=some o
 slot:∀b o,h.get? b=some o->H b=none->b∈fs->b∉ex->∃sl,h'.get? b=some { o with slots:=sl }
 free:∀b o,h.get? b=some o->H b=none->b∉ex->H' b=none
 there:∀b o,h.get? b=some o->b∉ex->∃o',h'.get? b=some o'
 tups:∀b xs,H b=some (.tup xs)->H' b=some (.tup xs)
 frzs:∀b o u,H b=some (.frz o u)->H' b=some (.frz o u)
 tbls:∀b ps,H b=some (.tbl ps)->∃more,H' b=some (.tbl (ps++more))
section
variable{fs fs' ex ex':List Addr}{H H1 H2:Hp}{h h1 h2 h':Heap}{a x e:Addr}{o:HO}
theorem Un.any(u:Un fs ex H H1 h h1){ob:Obj}(q:h.get? b=some ob)(n:H b=none)(hx:b∉ex):∃sl,h1.get? b=some { ob with slots:=sl }:=by
 by_cases hb:b∈fs
 ·exact u.slot b ob q n hb hx
 ·exact⟨ob.slots,u.keep b ob q n hb hx⟩
theorem Un.kept(k:∀b u,h.get? b=some u->h'.get? b=some u):Un fs ex H H h h':=
 ⟨λb ob q _ _ _=>k b ob q,λb ob q _ _ _=>⟨ob.slots,k b ob q⟩,λ_ _ _ n _=>n,λb ob q _=>⟨ob,k b ob q⟩,λ_ _ q=>q,λ_ _ _ q=>q,λ_ ps q=>⟨#[],by rw[q];simp⟩⟩
theorem Un.refl:Un fs ex H H h h:=Un.kept λ_ _ q=>q
theorem Un.laid(k:∀b u,h.get? b=some u->h'.get? b=some u)(hp:h.objs.size<=a)(hn:H a=none):Un fs ex H (upd H a o) h h' where
 keep:=λb u q _ _ _=>k b u q
 slot:=λb u q _ _ _=>⟨u.slots,k b u q⟩
 free:=λb u q n _=>by rw[nH (aT (bJ (aI q) hp))];exact n
 there:=λb u q _=>⟨u,k b u q⟩
 tups:=λb xs q=>by rw[nH (o3 q hn)];exact q
 frzs:=λb u xs q=>by rw[nH (o3 q hn)];exact q
 tbls:=λb ps q=>⟨#[],by rw[nH (o3 q hn),q];simp⟩
theorem Un.write(mu:Mut (H x))(he:e=x\/H e=some (.own x))(k:∀b u,b≠e->h.get? b=some u->h'.get? b=some u)(heo:∃u,h'.get? e=some u):Un fs ex H (upd H x o) h h':=by
 have hx:∀b,H b=none->b≠x:=λb n z=>by subst z;rw[n]at mu;exact mu
 have hb:∀b,H b=none->b≠e:=λb n z=>by
  subst z;rcases he with r|r
  ·exact hx b n r
  ·rw[n]at r;cases r
 have hm:∀b u,H b=some u->¬Mut (some u)->b≠x:=λb u q nm z=>by subst z;rw[q]at mu;exact nm mu
 refine⟨λb u q n _ _=>k b u (hb b n) q,λb u q n _ _=>⟨u.slots,k b u (hb b n) q⟩,λb u q n _=>by rw[nH (hx b n)];exact n,λb u q _=>?_,
  λb xs q=>by rw[nH (hm b _ q λz=>z)];exact q,λb u xs q=>by rw[nH (hm b _ q λz=>z)];exact q,λb ps q=>⟨#[],by rw[nH (hm b _ q λz=>z),q];simp⟩⟩
 by_cases hbe:b=e
 ·subst hbe;exact heo
 ·exact⟨u,k b u hbe q⟩
end
def trk(h:Heap)(H:Hp):List Addr:=(aV h.objs.size).filter λa=>(H a).isSome
def zH(h:Heap)(H:Hp):Heap:=W.hideAll h (trk h H)
theorem DO(h:Heap)(H:Hp):(zH h H).objs.size=h.objs.size:=W.hideAll_size _ _
theorem EM{h:Heap}{H:Hp}{o:Obj}(e:h.get? b=some o)(n:H b=none):(zH h H).get? b=some o:=
 iP _ e λhm=>by have q:(H b).isSome=true:=(bF.mp hm).2;rw[n]at q;simp at q
theorem Hl{h:Heap}{H:Hp}{o:Obj}(e:(zH h H).get? b=some o):h.get? b=some o/\H b=none:=by
 have e':h.get? b=some o:=iY (trk h H) e;refine⟨e',?_⟩;cases q:H b with
 |none=>rfl
 |some x=>have hm:b∈trk h H:=bF.mpr ⟨bH.mpr (aI e'),by simp[q]⟩;have z:(zH h H).get? b=none:=W.hideAll_none (trk h H) hm;rw[z]at e;cases e
def Hm(g h:Heap)(L:Addr):List (Addr×Obj):=(aV h.objs.size).filterMap λa=>if a=L\/(g.get? a).isSome=true then none else (h.get? a).map λo=>(a,o)
def rest(g h:Heap)(L d:Addr):List (Addr×Obj):=(Hm g h L).filter λp=>decide (p.1≠d)
structure Mod(K:aj)(mg:Str->Option aa)(base:Heap):Prop where
 kin:K.In base
 glob:base.Ns aJ mg
 blt:∃mb,base.Ns builtinsNs mb/\∀x:Str,x≠"__name__" -> mb x=cO x
 nolimit:base.NoLimit
structure Cx where
 prog:ar
 w:ao
 K:aj
 mg:Str->Option aa
 base:Heap
 A:av
 N:List Str
 s₀:ae
 H₀:Hp
 env:Env
 outer:List Env
 stack:List Env
 ex:List Addr
 fn:Str->Bool
 calm:Bool
 pn:List (Addr×Obj)
 xe:aa->ae->Prop
def frs(l:List Env):List Addr:=l.filterMap (·.frame)
abbrev Cx.fs(X:Cx):List Addr:=frs X.outer
def Vis(sc:bT)(x:Str):Prop:=sc.names.lookup x=some .local\/sc.names.lookup x=some .cell\/sc.names.lookup x=some .free
def Loc(sc:bT)(x:Str):Prop:=sc.names.lookup x=some .local\/sc.names.lookup x=some .cell
def Look(env:Env)(h:Heap)(m:Str->Option aa)(x:Str)(u:aa):Prop:=
 (env.kindOf x=some .local/\m x=some u)\/((env.kindOf x=some .cell\/env.kindOf x=some .free)/\∃c,env.cells.lookup x=some c/\h.IsCell c (some u))
structure Cx.Ok(X:Cx):Prop where
 mod:Mod X.K X.mg X.base
 kind:X.env.scope.kind=.function
 glob:X.env.globals=aJ
 blt:X.env.builtins=builtinsNs
 above:X.s₀.heap.objs.size<=X.env.locals
 inj:∀x y c,X.env.cells.lookup x=some c->X.env.cells.lookup y=some c->x=y
 has:∀x,(X.env.kindOf x=some .cell\/X.env.kindOf x=some .free)->∃c,X.env.cells.lookup x=some c
 cab:∀x c,X.fn x=true->X.env.cells.lookup x=some c->X.s₀.heap.objs.size<=c
 hd:X.calm=true->X.A.handled=none
 frames:X.A.frames=some X.stack
 stk:X.stack=X.outer\/(X.stack=X.env::X.outer/\X.env.frame=some X.env.locals)
 exf:∀b∈X.ex,b≠X.env.locals/\∀x c,X.env.cells.lookup x=some c->c≠b
 bs:∀b o,X.base.get? b=some o->X.s₀.heap.get? b=some o/\X.H₀ b=none
 bsz:X.base.objs.size<=X.s₀.heap.objs.size
 noex:∀b o,X.base.get? b=some o->b∉X.ex
 exfs:∀b∈X.ex,b∉X.fs
 funs:X.s₀.heap.FunFrames X.base X.outer
 frf:∀b∈X.fs,X.H₀ b=none
structure Inv(X:Cx)(pins:List (Addr×Obj))(σ:List (Option V))(H:Hp)(s:ae):Prop where
 ok:X.Ok
 os:s.os=X.s₀.os
 bare:cQ s.gens
 base:Un X.fs X.ex X.H₀ H X.s₀.heap s.heap
 loc:∃m,s.heap.Ns X.env.locals m/\∀(i:Nat) (x:Str) (v:V),X.N[i]?=some x->σ[i]?=some (some v)->Vis X.env.scope x->∃u,RelV v u/\Look X.env s.heap m x u
 cell:∀x c,X.env.cells.lookup x=some c->∃v,s.heap.IsCell c v
 free:H X.env.locals=none
 freeC:∀x c,X.env.cells.lookup x=some c->H c=none
 pin:∀p∈X.pn++pins,s.heap.get? p.1=some p.2/\H p.1=none/\p.1≠X.env.locals/\p.1∉X.fs/\∀v,p.2.data≠.cell v
 hok:HOk X.prog X.w H s.heap
 len:σ.length=X.N.length
variable{g':Array eA}{t' i j:Nat}{d':Drawn}{ch:List Addr}{it:Addr}{N:List Str}{x:Str}{M:Model}{E:aa->ae->Prop}{s':ae}
section
variable{X:Cx}{pins:List (Addr×Obj)}{σ:List (Option V)}{H H':Hp}{s:ae}{h':Heap}
theorem Cx.Ok.nofr(ok:X.Ok){o:Obj}(e:X.base.get? b=some o):b∉X.fs:=λhb=>by have:=(ok.funs.mem hb).1;rw[e]at this;cases this
theorem Inv.bs(I:Inv X pins σ H s):∀b o,X.base.get? b=some o->s.heap.get? b=some o/\H b=none:=λb o e=>
 ⟨I.base.keep b o (I.ok.bs b o e).1 (I.ok.bs b o e).2 (I.ok.nofr e) (I.ok.noex b o e),I.base.free b o (I.ok.bs b o e).1 (I.ok.bs b o e).2 (I.ok.noex b o e)⟩
theorem Inv.bk(I:Inv X pins σ H s):∀b o,X.base.get? b=some o->s.heap.get? b=some o:=λb o e=>(I.bs b o e).1
theorem Inv.mod(I:Inv X pins σ H s):Mod X.K X.mg X.base:=I.ok.mod
theorem Inv.kIn(I:Inv X pins σ H s):X.K.In s.heap:=I.ok.mod.kin.keeps I.bk
theorem Inv.fr(I:Inv X pins σ H s):∃m,Fr X.base X.env.locals s.heap m:=
 let ⟨m,hn,_⟩:=I.loc
 ⟨m,hn,I.bk,bw I.ok.bsz I.ok.above⟩
theorem Inv.lt(I:Inv X pins σ H s):X.env.locals<s.heap.objs.size:=let ⟨_,hn,_⟩:=I.loc;hn.lt
theorem Inv.sz(I:Inv X pins σ H s):X.s₀.heap.objs.size<=s.heap.objs.size:=bw I.ok.above (gr I.lt)
theorem Inv.nofs(I:Inv X pins σ H s)(h:s.heap.objs.size<=a):a∉X.fs:=λhb=>by obtain⟨_,o,ho,_⟩:=I.ok.funs.mem hb;exact ak (bJ (aI ho) (bw I.sz h)) (dE _)
theorem Inv.cne(I:Inv X pins σ H s):∀x c,X.env.cells.lookup x=some c->c≠X.env.locals:=λx c e z=>by obtain⟨v,o,ho,hd⟩:=I.cell x c e;obtain⟨m,⟨o',es,ep,ho',hd',_⟩,_⟩:=I.loc;rw[z,ho']at ho;cases ho;rw[hd']at hd;cases hd
theorem Inv.funs(I:Inv X pins σ H s):s.heap.FunFrames X.base X.outer:=by
 have all:∀(l:List Env),(∀b∈frs l,b∈X.fs)->X.s₀.heap.FunFrames X.base l->s.heap.FunFrames X.base l:=by
  intro l
  induction l with
  |nil=>intro _ _;trivial
  |cons env r ih=>intro hs hl;obtain⟨hk,⟨L,o,hf,hn,ho,hd⟩,hr⟩:=hl;have hL:L∈X.fs:=hs L (by unfold frs;rw[cN,hf];exact aE);obtain⟨sl,e⟩:=I.base.slot L o ho (I.ok.frf L hL) hL λz=>I.ok.exfs L z hL;exact⟨hk,⟨L,_,hf,hn,e,hd⟩,ih (λb hb=>hs b (by unfold frs;rw[cN,hf];exact aG _ hb)) hr⟩
 exact all X.outer (λ_ hb=>hb) I.ok.funs
theorem Inv.stack(I:Inv X pins σ H s):s.heap.FunFrames X.base X.stack:=by
 rcases I.ok.stk with e|⟨e,hf⟩
 ·rw[e];exact I.funs
 ·rw[e];obtain⟨m,hn,_⟩:=I.loc;refine .cons (by rw[I.ok.kind];decide) hf hn ?_ I.funs;exact Heap.get?_none_of_le (bw I.ok.bsz I.ok.above)
theorem Inv.stkSub(I:Inv X pins σ H s):∀b∈frs X.stack,b∈X.env.locals::X.fs:=λb hb=>by
 rcases I.ok.stk with e|⟨e,hf⟩
 ·rw[e]at hb;exact aG _ hb
 ·rw[e]at hb;unfold frs at hb;rw[cN,hf]at hb;exact hb
theorem Inv.stkFree(I:Inv X pins σ H s):∀b∈frs X.stack,H b=none:=λb hb=>by
 rcases aO.mp (I.stkSub b hb)with e|hb
 ·rw[e];exact I.free
 ·obtain⟨_,o,ho,_⟩:=I.ok.funs.mem hb;exact I.base.free b o ho (I.ok.frf b hb) λz=>I.ok.exfs b z hb
theorem Inv.step(I:Inv X pins σ H s)
  (hch:∀b∈ch,(b∈X.ex\/X.s₀.heap.objs.size<=b)/\b≠X.env.locals/\(∀x c,X.env.cells.lookup x=some c->c≠b)/\∀p∈X.pn++pins,p.1≠b)
  (keep:∀b o,b≠X.env.locals->b∉X.fs->b∉ch->s.heap.get? b=some o->H b=none->h'.get? b=some o)
  (slot:∀b o,b≠X.env.locals->b∈X.fs->b∉ch->s.heap.get? b=some o->H b=none->∃sl,h'.get? b=some { o with slots:=sl }) (free:∀b o,b∉ch->s.heap.get? b=some o->H b=none->H' b=none)
  (there:∀b o,b∉ch->s.heap.get? b=some o->∃o',h'.get? b=some o')
  (tups:∀b xs,H b=some (.tup xs)->H' b=some (.tup xs)) (frzs:∀b o u,H b=some (.frz o u)->H' b=some (.frz o u)) (tbls:∀b ps,H b=some (.tbl ps)->∃more,H' b=some (.tbl (ps++more)))
  (ns:∀m,s.heap.Ns X.env.locals m->h'.Ns X.env.locals m) (hok:HOk X.prog X.w H' h') (hg:cQ g'):
  Inv X pins σ H' { s with heap:=h',gens:=g',drawn:=d',toks:=t' }:=by
 have neL:∀b o,X.s₀.heap.get? b=some o->b≠X.env.locals:=λb o e=>aT (bJ (aI e) I.ok.above);have neC:∀b o,X.s₀.heap.get? b=some o->b∉X.ex->b∉ch:=λb o e hx hb=>by
  rcases(hch b hb).1 with z|z
  ·exact hx z
  ·exact ak (bJ (aI e) z) (dE _)
 have cellK:∀x c,X.env.cells.lookup x=some c->∀v,s.heap.IsCell c v->h'.IsCell c v:=λx c e v ⟨o,ho,hd⟩=>by
  have nch:c∉ch:=λz=>(hch c z).2.2.1 x c e rfl;by_cases hc:c∈X.fs
  ·obtain⟨sl,q⟩:=slot c o (I.cne x c e) hc nch ho (I.freeC x c e);exact⟨_,q,hd⟩
  ·exact⟨o,keep c o (I.cne x c e) hc nch ho (I.freeC x c e),hd⟩
 refine⟨I.ok,I.os,hg,⟨λb o e n hb hx=>?_,λb o e n hb hx=>?_,λb o e n hx=>?_,λb o e hx=>?_,λb xs e=>tups b xs (I.base.tups b xs e),λb o xs e=>frzs b o xs (I.base.frzs b o xs e),λb ps e=>?_⟩,?_,λx c e=>?_,?_,λx c e=>?_,λp hp=>?_,hok,I.len⟩
 ·exact keep b o (neL b o e) hb (neC b o e hx) (I.base.keep b o e n hb hx) (I.base.free b o e n hx)
 ·obtain⟨sl,e1⟩:=I.base.slot b o e n hb hx;obtain⟨sl',e2⟩:=slot b _ (neL b o e) hb (neC b o e hx) e1 (I.base.free b o e n hx);exact⟨sl',e2⟩
 ·obtain⟨o',e1⟩:=I.base.there b o e hx;exact free b o' (neC b o e hx) e1 (I.base.free b o e n hx)
 ·obtain⟨o',e1⟩:=I.base.there b o e hx;exact there b o' (neC b o e hx) e1
 ·obtain⟨m1,e1⟩:=I.base.tbls b ps e;obtain⟨m2,e2⟩:=tbls b _ e1;exact⟨m1++m2,by rw[e2,Array.append_assoc]⟩
 ·obtain⟨m,hn,hl⟩:=I.loc;refine⟨m,ns m hn,λi x v e1 e2 e3=>?_⟩;obtain⟨u,r,l⟩:=hl i x v e1 e2 e3;refine⟨u,r,?_⟩;rcases l with l|⟨k,c,e,z⟩
  ·exact .inl l
  ·exact .inr ⟨k,c,e,cellK x c e _ z⟩
 ·obtain⟨v,z⟩:=I.cell x c e;exact⟨v,cellK x c e v z⟩
 ·obtain⟨m,⟨o,_,_,ho,_⟩,_⟩:=I.loc;exact free _ o (λz=>(hch _ z).2.1 rfl) ho I.free
 ·obtain⟨v,o,ho,hd⟩:=I.cell x c e;exact free c o (λz=>(hch c z).2.2.1 x c e rfl) ho (I.freeC x c e)
 ·obtain⟨e,n,ne,nf,d⟩:=I.pin p hp;have nch:p.1∉ch:=λz=>(hch p.1 z).2.2.2 p hp rfl;exact⟨keep p.1 p.2 ne nf nch e n,free p.1 p.2 nch e n,ne,nf,d⟩
theorem Inv.un(I:Inv X pins σ H s)(u:Un X.fs [] H H' s.heap h')(hok:HOk X.prog X.w H' h'):Inv X pins σ H' { s with heap:=h',toks:=t' }:=by
 obtain⟨m,⟨o,es,ep,ho,r⟩,_⟩:=id I.loc;obtain⟨sl,hL⟩:=u.any ho I.free (by simp);exact I.step (g':=s.gens) (d':=s.drawn) (ch:=[]) (λ_ z=>nomatch z) (λb o _ hb _ e n=>u.keep b o e n hb (by simp)) (λb o _ hb _ e n=>u.slot b o e n hb (by simp)) (λb o _ e n=>u.free b o e n (by simp)) (λb o _ e=>u.there b o e (by simp)) u.tups u.frzs u.tbls (λm' hm=>by
  obtain⟨o',es',ep',ho',r'⟩:=hm;rw[ho]at ho';cases ho';exact⟨_,es',ep',hL,r'⟩) hok I.bare
theorem Inv.call(I:Inv X pins σ H s)(u:Un (frs X.stack) ch H H' s.heap h')(hok:HOk X.prog X.w H' h')(hg:cQ g')
  (hch:∀b∈ch,(b∈X.ex\/X.s₀.heap.objs.size<=b)/\b≠X.env.locals/\(∀x c,X.env.cells.lookup x=some c->c≠b)/\∀p∈X.pn++pins,p.1≠b):
  Inv X pins σ H' { s with heap:=h',gens:=g',drawn:=d',toks:=t' }:=by
 obtain⟨m,⟨o,es,ep,ho,r⟩,_⟩:=id I.loc;obtain⟨sl,hL⟩:=u.any ho I.free λz=>(hch _ z).2.1 rfl;exact I.step (ch:=ch) hch (λb o hL hb hc e n=>u.keep b o e n (λz=>(aO.mp (I.stkSub b z)).elim hL hb) hc) (λb o _ _ hc e n=>u.any e n hc) (λb o hc e n=>u.free b o e n hc) (λb o hc e=>u.there b o e hc) u.tups u.frzs u.tbls (λm' hm=>by
  obtain⟨o',es',ep',ho',r'⟩:=hm;rw[ho]at ho';cases ho';exact⟨_,es',ep',hL,r'⟩) hok hg
theorem Inv.turned(I:Inv X pins σ H s)(k:∀b o,b≠it->s.heap.get? b=some o->h'.get? b=some o)(hn:H it=none)(hL:it≠X.env.locals)
  (h1:it∈X.ex\/X.s₀.heap.objs.size<=it) (h2:∀x c,X.env.cells.lookup x=some c->c≠it) (h3:∀p∈X.pn++pins,p.1≠it):Inv X pins σ H { s with heap:=h',toks:=t' }:=by
 have nit:∀b u,H b=some u->b≠it:=λb u e z=>by rw[z,hn]at e;cases e
 refine I.step (g':=s.gens) (d':=s.drawn) (ch:=[it]) (λb hb=>?_) (λb o _ _ hc e _=>k b o (λz=>hc (by simp[z])) e) (λb o _ _ hc e _=>⟨o.slots,k b o (λz=>hc (by simp[z])) e⟩) (λ_ _ _ _ n=>n)
  (λb o hc e=>⟨o,k b o (λz=>hc (by simp[z])) e⟩) (λ_ _ e=>e) (λ_ _ _ e=>e) (λb ps e=>⟨#[],by rw[e];simp⟩) (λm hm=>?_) (λb u e=>?_) I.bare
 ·have e:b=it:=by simpa using hb
  subst e;exact⟨h1,hL,h2,h3⟩
 ·obtain⟨o,es,ep,ho,r⟩:=hm;exact⟨o,es,ep,k _ o (dJ hL) ho,r⟩
 ·refine(I.hok b u e).stay (λc v hc q=>k c v ?_ q) (λ_ q=>q) λ_ _ q=>q;rcases hc with z|z
  ·rw[z];exact nit b u e
  ·exact nit c _ z
theorem Inv.tok(I:Inv X pins σ H s)(t:Nat):Inv X pins σ H { s with toks:=t }:=I.un (h':=s.heap) (t':=t) Un.refl I.hok
theorem Inv.kept(I:Inv X pins σ H s)(k:∀b u,s.heap.get? b=some u->h'.get? b=some u):Inv X pins σ H { s with heap:=h',toks:=t' }:=I.un (Un.kept k) (I.hok.kept k)
theorem Inv.laid(I:Inv X pins σ H s)(k:∀b u,s.heap.get? b=some u->h'.get? b=some u)(hp:s.heap.objs.size<=a)(new:oP X.prog X.w (upd H a o) h' a o):
  Inv X pins σ (upd H a o) { s with heap:=h',toks:=t' }:=I.un (Un.laid k hp (I.hok.fresh hp)) (I.hok.laid k hp new)
theorem Inv.write{x e:Addr}(I:Inv X pins σ H s)(mu:Mut (H x))(he:e=x\/H e=some (.own x))(k:∀b u,b≠e->s.heap.get? b=some u->h'.get? b=some u)(heo:∃u,h'.get? e=some u)
  (new:oP X.prog X.w (upd H x o) h' x o):Inv X pins σ (upd H x o) { s with heap:=h',toks:=t' }:=I.un (Un.write mu he k heo) (I.hok.write mu he k heo new)
theorem Inv.weak{σ':List (Option V)}(I:Inv X pins σ H s)(hl:σ'.length=σ.length)(w:∀(i:Nat) v,σ'[i]?=some (some v)->σ[i]?=some (some v)):Inv X pins σ' H s:=
 ⟨I.ok,I.os,I.bare,I.base,let ⟨m,hn,hl'⟩:=I.loc;⟨m,hn,λi x v e1 e2 e3=>hl' i x v e1 (w i v e2) e3⟩,I.cell,I.free,I.freeC,I.pin,I.hok,hl.trans I.len⟩
theorem Inv.pins_of{pins':List (Addr×Obj)}(I:Inv X pins σ H s)(h:∀p∈pins',s.heap.get? p.1=some p.2/\H p.1=none/\p.1≠X.env.locals/\p.1∉X.fs/\∀v,p.2.data≠.cell v):Inv X pins' σ H s:=
 ⟨I.ok,I.os,I.bare,I.base,I.loc,I.cell,I.free,I.freeC,λp hp=>(aN.mp hp).elim (λz=>I.pin p (bb _ z)) (h p),I.hok,I.len⟩
theorem AG(hN:N.Nodup)(a:N[i]?=some x)(b:N[j]?=some x):i=j:=by obtain⟨h1,e1⟩:=bj.mp a;obtain⟨h2,e2⟩:=bj.mp b;exact(ir hN).mp (e1.trans e2.symm)
theorem DP{A:av}{v:V}{Q:Unit->ae->Prop}(I:Inv X pins σ H s)(hN:X.N.Nodup)(hi:X.N[i]?=some x)(hx:Loc X.env.scope x)(r:RelV v u)
  (h:∀s',Inv X pins (σ.set i (some v)) H s'->(∃a,eO a s.heap s'.heap/\(a=X.env.locals\/X.env.cells.lookup x=some a))->Q () s') (hf:X.fn x=true\/X.env.scope.names.lookup x=some .local:=by first|exact .inl rfl|exact .inr rfl|assumption):ah M A (storeName X.env x u) Q E s:=by
 obtain⟨m,hn,hl⟩:=id I.loc;have hcls:(X.env.scope.kind==.class||(X.env.scope.kind==.module&&X.env.locals != X.env.globals))=false:=by rw[I.ok.kind];rfl
 have hiσ:i<σ.length:=by rw[I.len];exact(bj.mp hi).1
 have cne:=I.cne;have tracked:∀{a:Addr} {h':Heap},(∃o,s.heap.get? a=some o/\H a=none)->eO a s.heap h'->HOk X.prog X.w H h':=λ{a h'} ha hs b ob e=>by
  obtain⟨_,_,hfree⟩:=ha;refine(I.hok b ob e).stay (λc w' hc q=>(hs.2 c ?_).trans q) (λ_ q=>q) λ_ _ q=>q;rintro rfl;rcases hc with rfl|hc
  ·rw[hfree]at e;cases e
  ·rw[hfree]at hc;cases hc
 rcases hx with hk|hk
 ·refine wpAny_storeName_local hk hn (λh' hn' hs=>?_) hcls;obtain⟨oL,_,_,hoL,_⟩:=id hn;refine h _ ⟨I.ok,I.os,I.bare,⟨λb o e n hb hx=>?_,λb o e n hb hx=>?_,I.base.free,λb o e hx=>?_,I.base.tups,I.base.frzs,I.base.tbls⟩,⟨_,hn',λj y v' e1 e2 e3=>?_⟩,λy c e=>?_,I.free,I.freeC,λp hp=>?_,tracked ⟨oL,hoL,I.free⟩ hs,by simpa using I.len⟩ ⟨_,hs,.inl rfl⟩
  ·exact(hs.2 b (aT (bJ (aI e) I.ok.above))).trans (I.base.keep b o e n hb hx)
  ·obtain⟨sl,e1⟩:=I.base.slot b o e n hb hx;exact⟨sl,(hs.2 b (aT (bJ (aI e) I.ok.above))).trans e1⟩
  ·obtain⟨o',e1⟩:=I.base.there b o e hx;exact⟨o',(hs.2 b (aT (bJ (aI e) I.ok.above))).trans e1⟩
  ·by_cases hj:j=i
   ·subst hj;rw[hi]at e1;cases e1;rw[fY hiσ]at e2;cases e2;exact⟨u,r,.inl ⟨hk,by simp⟩⟩
   ·rw[hE (dJ hj)]at e2;obtain⟨u',r',q⟩:=hl j y v' e1 e2 e3;refine⟨u',r',?_⟩;rcases q with ⟨k,e⟩|⟨k,c,e,z⟩
    ·refine .inl ⟨k,?_⟩;have:y≠x:=λe=>hj (AG hN e1 (e▸hi));simp[this,e]
    ·exact .inr ⟨k,c,e,z.sameBut hs (cne y c e)⟩
  ·obtain⟨w',z⟩:=I.cell y c e;exact⟨w',z.sameBut hs (cne y c e)⟩
  ·obtain⟨e,n,ne,nf,d⟩:=I.pin p hp;exact⟨(hs.2 p.1 ne).trans e,n,ne,nf,d⟩
 ·have hfn:X.fn x=true:=by
   rcases hf with z|z
   ·exact z
   ·rw[z]at hk;cases hk
  obtain⟨c,hc⟩:=I.ok.has x (.inl hk);obtain⟨w',z⟩:=I.cell x c hc;refine wpAny_storeName_cell I.ok.kind hk hc z (λh' hc' hs=>?_);obtain⟨oc,hoc,hocd⟩:=id z;refine h { s with heap:=h' } ⟨I.ok,I.os,I.bare,⟨λb o e n hb hx=>?_,λb o e n hb hx=>?_,I.base.free,λb o e hx=>?_,I.base.tups,I.base.frzs,I.base.tbls⟩,⟨m,hn.sameBut hs (dJ (cne x c hc)),λj y v' e1 e2 e3=>?_⟩,λy c' e=>?_,I.free,I.freeC,λp hp=>?_,tracked ⟨oc,hoc,I.freeC x c hc⟩ hs,by simpa using I.len⟩ ⟨c,hs,.inr hc⟩
  ·exact(hs.2 b (aT (bJ (aI e) (I.ok.cab x c hfn hc)))).trans (I.base.keep b o e n hb hx)
  ·obtain⟨sl,e1⟩:=I.base.slot b o e n hb hx;exact⟨sl,(hs.2 b (aT (bJ (aI e) (I.ok.cab x c hfn hc)))).trans e1⟩
  ·obtain⟨o',e1⟩:=I.base.there b o e hx;exact⟨o',(hs.2 b (aT (bJ (aI e) (I.ok.cab x c hfn hc)))).trans e1⟩
  ·by_cases hj:j=i
   ·subst hj;rw[hi]at e1;cases e1;rw[fY hiσ]at e2;cases e2;exact⟨u,r,.inr ⟨.inl hk,c,hc,hc'⟩⟩
   ·rw[hE (dJ hj)]at e2;obtain⟨u',r',q⟩:=hl j y v' e1 e2 e3;refine⟨u',r',?_⟩;rcases q with q|⟨k,c',e,z'⟩
    ·exact .inl q
    ·refine .inr ⟨k,c',e,z'.sameBut hs ?_⟩;rintro rfl;exact hj (AG hN e1 (I.ok.inj _ _ _ e hc▸hi))
  ·by_cases hcc:c'=c
   ·subst hcc;exact⟨_,hc'⟩
   ·obtain⟨w2,z2⟩:=I.cell y c' e;exact⟨w2,z2.sameBut hs hcc⟩
  ·obtain⟨e,n,ne,nf,d⟩:=I.pin p hp;refine⟨(hs.2 p.1 ?_).trans e,n,ne,nf,d⟩;intro q;rw[q,hoc]at e;have q':oc=p.2:=bQ e;exact d w' (by rw[<-q'];exact hocd)
theorem AH{A:av}{v:V}{Q:Unit->ae->Prop}(I:Inv X pins σ H s)(hN:X.N.Nodup)(hi:X.N[i]?=some x)(hx:Loc X.env.scope x)(r:RelV v u)
  (h:∀s',Inv X pins (σ.set i (some v)) H s'->Q () s') (hf:X.fn x=true\/X.env.scope.names.lookup x=some .local:=by first|exact .inl rfl|exact .inr rfl|assumption):ah M A (storeName X.env x u) Q E s:=
 DP I hN hi hx r (λs' I' _=>h s' I') hf
theorem Inv.call'(I:Inv X pins σ H s)(ho:s'.os=s.os)(u:Un (frs X.stack) ch H H' s.heap s'.heap)(hok:HOk X.prog X.w H' s'.heap)(hg:cQ s'.gens)
  (hch:∀b∈ch,(b∈X.ex\/X.s₀.heap.objs.size<=b)/\b≠X.env.locals/\(∀x c,X.env.cells.lookup x=some c->c≠b)/\∀p∈X.pn++pins,p.1≠b):Inv X pins σ H' s':=by
 obtain⟨h',g',d',t',o'⟩:=s';have e:o'=s.os:=ho;subst e;exact I.call (g':=g') (t':=t') (d':=d') u hok hg hch
end
abbrev XK:=aa->Option Addr->Hp->Prop
abbrev St:=List (Option V)
abbrev VK:=V->Hp->Prop
abbrev TE:=St->Hp->VK->Prop
abbrev TT:=St->Hp->(Bool->Hp->Prop)->Prop
abbrev TA:=St->Hp->(List V->Hp->Prop)->Prop
structure Ends where
 nx:St->Hp->Prop
 rt:VK
 bk:St->Hp->Prop:=λ_ _=>False
 ct:St->Hp->Prop:=λ_ _=>False
abbrev TS:=Ends->St->Hp->Prop
def EP(X:Cx)(pins:List (Addr×Obj))(σ:St)(Q:VK)(u:aa)(s':ae):Prop:=∃v H',Inv X pins σ H' s'/\RelV v u/\Q v H'
def TP(X:Cx)(pins:List (Addr×Obj))(σ:St)(Q:Bool->Hp->Prop)(b:Bool)(s':ae):Prop:=∃H',Inv X pins σ H' s'/\Q b H'
def AP(X:Cx)(pins:List (Addr×Obj))(σ:St)(Q:List V->Hp->Prop)(us:List aa)(s':ae):Prop:=∃vs H',Inv X pins σ H' s'/\Vals vs us/\Q vs H'
def SP(X:Cx)(pins:List (Addr×Obj))(D:Ends)(f:Flow)(s':ae):Prop:=
 match f with
 |.next=>∃σ' H',Inv X pins σ' H' s'/\D.nx σ' H'
 |.brk=>∃σ' H',Inv X pins σ' H' s'/\D.bk σ' H'
 |.cont=>∃σ' H',Inv X pins σ' H' s'/\D.ct σ' H'
 |.ret u=>∃v σ' H',Inv X pins σ' H' s'/\RelV v u/\D.rt v H'
def PE(X:Cx)(e:Expr)(t:TE):Prop:=
 ∀(pins:List (Addr×Obj)) (s:ae) (σ:St) (H:Hp) (Q:VK),Inv X pins σ H s->t σ H Q->ah (model X.prog X.w) X.A (eval e X.env) (EP X pins σ Q) X.xe s
def PT(X:Cx)(e:Expr)(t:TT):Prop:=
 ∀(pins:List (Addr×Obj)) (s:ae) (σ:St) (H:Hp) (Q:Bool->Hp->Prop),Inv X pins σ H s->t σ H Q->ah (model X.prog X.w) X.A (isTrue e X.env (eval e X.env)) (TP X pins σ Q) X.xe s
def PW(X:Cx)(e:Expr)(t:TT):Prop:=
 ∀(whole:Sem aa) (pins:List (Addr×Obj)) (s:ae) (σ:St) (H:Hp) (Q:Bool->Hp->Prop),Inv X pins σ H s->t σ H Q->ah (model X.prog X.w) X.A (isTrue e X.env whole) (TP X pins σ Q) X.xe s
variable{X:Cx}{e:Expr}
theorem PW.pt{t:TT}(h:PW X e t):PT X e t:=h _
def PA(X:Cx)(es:List Expr)(t:TA):Prop:=
 ∀(pos:Pos) (pins:List (Addr×Obj)) (s:ae) (σ:St) (H:Hp) (Q:List V->Hp->Prop),Inv X pins σ H s->t σ H Q->ah (model X.prog X.w) X.A (spliced (aX pos (aq es X.env))) (AP X pins σ Q) X.xe s
def PS(X:Cx)(st:Stmt)(t:TS):Prop:=
 ∀(pins:List (Addr×Obj)) (s:ae) (σ:St) (H:Hp) (D:Ends),Inv X pins σ H s->t D σ H->ah (model X.prog X.w) X.A (exec st X.env) (SP X pins D) X.xe s
def PSs(X:Cx)(st:List Stmt)(t:TS):Prop:=
 ∀(pins:List (Addr×Obj)) (s:ae) (σ:St) (H:Hp) (D:Ends),Inv X pins σ H s->t D σ H->ah (model X.prog X.w) X.A (execs st X.env) (SP X pins D) X.xe s
theorem thn{α:Type}{t:Sem α}{Q Q':α->ae->Prop}{A:av}{s:ae}(h:ah M A t Q E s)(hQ:∀a s,Q a s->Q' a s):ah M A t Q' E s:=bx h hQ λ_ _ x=>x
variable{pins:List (Addr×Obj)}{σ:St}{R:V->V->Hp->Prop}{pos:Pos}{Q:aa->ae->Prop}{op:eB}{t:TE}{c:Expr}
section
variable{X:Cx}
theorem bin{a b:Expr}{ta tb:TE}(ha:PE X a ta)(hb:PE X b tb){s:ae}{H:Hp}(I:Inv X pins σ H s)(h:ta σ H λx H1=>tb σ H1 λy H2=>R x y H2)
  {α:Type} {Q:α->ae->Prop} {f:aa->aa->Sem α}
  (hf:∀v u s2 x y H2,Inv X pins σ H2 s2->RelV x v->RelV y u->R x y H2->ah (model X.prog X.w) X.A (f v u) Q X.xe s2):
  ah (model X.prog X.w) X.A (eval a X.env) (λv s₁=>ah (model X.prog X.w) X.A (eval b X.env) (λu s₂=>ah (model X.prog X.w) X.A (f v u) Q X.xe s₂) X.xe s₁) X.xe s:=by
 refine thn (ha pins s σ H _ I h) λv s1 zz=>?_;obtain⟨x,H1,I1,r1,q1⟩:=zz;refine thn (hb pins s1 σ H1 _ I1 q1) λu s2 zz=>?_;obtain⟨y,H2,I2,r2,q2⟩:=zz;exact hf v u s2 x y H2 I2 r1 r2 q2
def rW(i:Nat):TE:=λσ H Q=>∃v,σ[i]?=some (some v)/\Q v H
def tC(v:V):TE:=λ_ H Q=>Q v H
theorem Kw(hN:X.N[i]?=some x)(hv:Vis X.env.scope x)(hd:(x==("__debug__" : Str))=false:=by decide)(hcd:(x==("__classdict__" : Str))=false:=by decide):PE X (.Name x pos) (rW i):=by
 intro pins s σ H Q I h;obtain⟨v,e,h⟩:=h;obtain⟨m,hn,hl⟩:=I.loc;obtain⟨u,r,l⟩:=hl i x v hN e hv;have fin:EP X pins σ Q u s:=⟨v,H,I,r,h⟩;rcases l with ⟨hk,hm⟩|⟨hk,c,hc,hcell⟩
 ·exact iZ (wpAny_loadName_local I.ok.kind hk hn hm fin) hd
 ·rcases hk with hk|hk
  ·exact iZ (wpAny_loadName_cell I.ok.kind hk hc hcell fin) hd
  ·exact iZ (wpAny_loadName_free I.ok.kind hk hc hcell fin hcd) hd
theorem EN{i j pos}:PE X (.Constant (.int i) j pos) (tC (.int i)):=λ_ _ _ H _ I h=>wpAny_Constant_int ⟨.int i,H,I.tok _,⟨_,rfl⟩,h⟩
theorem N4{b j pos}:PE X (.Constant (.bool b) j pos) (tC (.bl b)):=λ_ _ _ H _ I h=>Constant_bool ⟨.bl b,H,I,rfl,h⟩
theorem Ky{j pos}:PE X (.Constant .none j pos) (tC .non):=λ_ _ _ H _ I h=>Constant_none ⟨.non,H,I,rfl,h⟩
theorem Kz{x j pos}:PE X (.Constant (.str x) j pos) (tC (.str x)):=λ_ _ _ H _ I h=>Calls.Constant_str ⟨.str x,H,I.tok _,⟨_,rfl⟩,h⟩
def Gl(X:Cx)(x:Str):Prop:=X.env.kindOf x=some .globalImplicit
theorem sV{s:ae}{H:Hp}(I:Inv X pins σ H s)(hg:Gl X x)(hm:X.mg x=some u)(h:Q u s)
  (hd:(x==("__debug__" : Str))=false:=by decide):ah (model X.prog X.w) X.A (eval (.Name x pos) X.env) Q E s:=
 jc I.ok.kind hg (Calls.loadGlobal_global (by rw[I.ok.glob];exact I.mod.glob.keeps I.bk) hm h) hd
theorem uZ{s:ae}{H:Hp}(I:Inv X pins σ H s)(hg:Gl X x)(hm:X.mg x=none)(hv:cO x=some u)(h:Q u s)
  (hn:x≠"__name__" := by decide) (hd:(x==("__debug__" : Str))=false:=by decide):ah (model X.prog X.w) X.A (eval (.Name x pos) X.env) Q E s:=by
 obtain⟨mb,h1,h2⟩:=I.mod.blt;exact jc I.ok.kind hg (Calls.loadGlobal_builtin (by rw[I.ok.glob];exact I.mod.glob.keeps I.bk) hm (by rw[I.ok.blt];exact h1.keeps I.bk) ((h2 x hn).trans hv) h) hd
theorem Cs{v:V}(hg:Gl X x)(hm:X.mg x=some u)(r:RelV v u)(hd:(x==("__debug__" : Str))=false:=by decide):PE X (.Name x pos) (tC v):=
 λ_ _ _ H _ I h=>sV I hg hm ⟨v,H,I,r,h⟩ hd
theorem Hn{v:V}(hg:Gl X x)(hm:X.mg x=none)(hv:cO x=some u)(r:RelV v u)(hn:x≠"__name__" := by decide)(hd:(x==("__debug__" : Str))=false:=by decide):PE X (.Name x pos) (tC v):=
 λ_ _ _ H _ I h=>uZ I hg hm hv ⟨v,H,I,r,h⟩ hn hd
variable{a b:Expr}{ta tb:TE}{pos:Pos}
def PC(X:Cx)(op:eB)(a b:Expr)(t:TE):Prop:=
 ∀(pins:List (Addr×Obj)) (s:ae) (σ:St) (H:Hp) (Q:VK),Inv X pins σ H s->t σ H Q->
  ah (model X.prog X.w) X.A (eval a X.env) (λv s₁=>ah (model X.prog X.w) X.A (eval b X.env) (λu s₂=>ah (model X.prog X.w) X.A (aW op v u) (EP X pins σ Q) X.xe s₂) X.xe s₁) X.xe s
def tB(t:TE):TT:=λσ H Q=>t σ H λx H1=>∃c,x=.bl c/\Q c H1
theorem PR(h:PC X op a b t)(h1:dY op b=false:=by first|exact nobehind _ (by decide) (by decide)|rfl):PT X (.Compare a [op] [b] pos) (tB t):=by intro pins s σ H Q I hw;refine js (thn (h pins s σ H _ I hw) λv s1 h1=>thn h1 λu s2 h2=>thn h2 λc s3 zz=>?_) h1;obtain⟨x,H1,I1,r1,q1⟩:=zz;obtain⟨d,rfl,q⟩:=q1;cases r1;exact cp ⟨H1,I1,q⟩
theorem KA(h:PE X e t)(he:∀whole,isTrue e X.env whole=(do let v<-whole;standAt e.pos;holding [v] (truthy v)):=by intro _;rfl):PT X e (tB t):=by intro pins s σ H Q I hw;refine isTrue_plain (thn (h pins s σ H _ I hw) λv s1 zz=>?_) (he _);obtain⟨x,H1,I1,r1,q1⟩:=zz;obtain⟨d,rfl,q⟩:=q1;cases r1;exact cp ⟨H1,I1,q⟩
variable{tA tB':TT}{rest:List Expr}
def N5(t u:TT):TT:=λσ H Q=>t σ H λc H1=>if c=true then u σ H1 Q else Q false H1
def tOr(t u:TT):TT:=λσ H Q=>t σ H λc H1=>if c=true then Q true H1 else u σ H1 Q
def PU(t:TT):TT:=λσ H Q=>t σ H λc H1=>Q (!c) H1
theorem Ho(ha:PT X a tA):PW X (.BoolOp .And [a] pos) tA:=by
 intro wh pins s σ H Q I h;refine isTrue_and (thn (ha pins s σ H Q I h) λc s1 e=>?_);cases c with
 |true=>exact isTrue_and_nil e
 |false=>exact e
theorem KB(ha:PT X a tA):PW X (.BoolOp .Or [a] pos) tA:=by
 intro wh pins s σ H Q I h;refine isTrue_or (thn (ha pins s σ H Q I h) λc s1 e=>?_);cases c with
 |false=>exact isTrue_or_nil e
 |true=>exact e
theorem KC(ha:PT X a tA)(hb:PW X (.BoolOp .And (b::rest) pos) tB'):PW X (.BoolOp .And (a::b::rest) pos) (N5 tA tB'):=by
 intro wh pins s σ H Q I h;refine isTrue_and (thn (ha pins s σ H _ I h) λc s1 zz=>?_);obtain⟨H1,I1,q1⟩:=zz;cases c with
 |true=>exact hb wh pins s1 σ H1 Q I1 q1
 |false=>exact⟨H1,I1,q1⟩
theorem N6(ha:PT X a tA)(hb:PW X (.BoolOp .Or (b::rest) pos) tB'):PW X (.BoolOp .Or (a::b::rest) pos) (tOr tA tB'):=by
 intro wh pins s σ H Q I h;refine isTrue_or (thn (ha pins s σ H _ I h) λc s1 zz=>?_);obtain⟨H1,I1,q1⟩:=zz;cases c with
 |true=>exact⟨H1,I1,q1⟩
 |false=>exact hb wh pins s1 σ H1 Q I1 q1
theorem KD(ha:PT X a tA):PT X (.UnaryOp .Not a pos) (PU tA):=by intro pins s σ H Q I h;exact isTrue_not (ha pins s σ H (λc H1=>Q (!c) H1) I h)
def N7(ta tb:TE):TE:=λσ H Q=>ta σ H λx H1=>∃c,x=.bl c/\if c=true then tb σ H1 Q else Q (.bl false) H1
def PV(ta tb:TE):TE:=λσ H Q=>ta σ H λx H1=>∃c,x=.bl c/\if c=true then Q (.bl true) H1 else tb σ H1 Q
def N8(ta:TE):TE:=λσ H Q=>ta σ H λx H1=>∃c,x=.bl c/\Q (.bl (!c)) H1
theorem KE{op}(h:PE X a t):PE X (.BoolOp op [a] pos) t:=λpins s σ H Q I hw=>BoolOp_one (h pins s σ H Q I hw)
theorem KF(ha:PE X a ta)(hb:PE X (.BoolOp .And (b::rest) pos) tb):PE X (.BoolOp .And (a::b::rest) pos) (N7 ta tb):=by
 intro pins s σ H Q I h;refine BoolOp_and (thn (ha pins s σ H _ I h) λv s1 zz=>?_);obtain⟨x,H1,I1,r1,q1⟩:=zz;obtain⟨c,rfl,q1⟩:=q1;cases r1;refine cp ?_;cases c with
 |true=>exact hb pins s1 σ H1 Q I1 q1
 |false=>exact⟨.bl false,H1,I1,rfl,q1⟩
theorem N9(ha:PE X a ta)(hb:PE X (.BoolOp .Or (b::rest) pos) tb):PE X (.BoolOp .Or (a::b::rest) pos) (PV ta tb):=by
 intro pins s σ H Q I h;refine BoolOp_or (thn (ha pins s σ H _ I h) λv s1 zz=>?_);obtain⟨x,H1,I1,r1,q1⟩:=zz;obtain⟨c,rfl,q1⟩:=q1;cases r1;refine cp ?_;cases c with
 |false=>exact hb pins s1 σ H1 Q I1 q1
 |true=>exact⟨.bl true,H1,I1,rfl,q1⟩
theorem KG(ha:PE X a ta):PE X (.UnaryOp .Not a pos) (N8 ta):=by intro pins s σ H Q I h;refine UnaryOp_ (thn (ha pins s σ H _ I h) λv s1 zz=>?_);obtain⟨x,H1,I1,r1,q1⟩:=zz;obtain⟨c,rfl,q1⟩:=q1;cases r1;exact not_of (cp ⟨.bl (!c),H1,I1,rfl,q1⟩)
def tIf(t:TT)(ta tb:TE):TE:=λσ H Q=>t σ H λc H1=>if c=true then ta σ H1 Q else tb σ H1 Q
theorem EO(hc:PT X c tA)(ha:PE X a ta)(hb:PE X b tb):PE X (.IfExp c a b pos) (tIf tA ta tb):=by
 intro pins s σ H Q I h;refine wpAny_IfExp (thn (hc pins s σ H _ I h) λd s1 zz=>?_);obtain⟨H1,I1,q1⟩:=zz;cases d with
 |true=>exact ha pins s1 σ H1 Q I1 q1
 |false=>exact hb pins s1 σ H1 Q I1 q1
end
def SqL(K:aj)(H:Hp)(a:Addr)(xs:List V):Prop:=
 Rd H a (.lst xs)\/
  ∃(o:Obj) (its:Array aa) (n:Nat),K.lookup a=some o/\o.cls=.type "list" /\ o.dict=none/\o.data=.seq its n/\its.size<=ay/\Vals xs its.toList
def SqT(K:aj)(H:Hp)(a:Addr)(xs:List V):Prop:=
 Rd H a (.tup xs)\/
  ∃(o:Obj) (its:Array aa) (n:Nat),K.lookup a=some o/\o.cls=.type "tuple" /\ o.data=.seq its n/\its.size<=ay/\Vals xs its.toList
def PX:aa->Option V
 |.none=>some .non
 |.bool b=>some (.bl b)
 |.int i _=>some (.int i)
 |.str x _=>some (.str x)
 |.bytes b _=>some (.byt b)
 |.float b _=>some (.flt b)
 |.ref a=>some (.ref a)
 |.type n=>some (.ty n)
 |_=>none
theorem RelV.abs{x:V}(r:RelV x u):PX u=some x:=by
 cases x with
 |non=>cases r;rfl
 |bl _=>cases r;rfl
 |int _=>obtain⟨t,rfl⟩:=r;rfl
 |str _=>obtain⟨t,rfl⟩:=r;rfl
 |byt _=>obtain⟨t,rfl⟩:=r;rfl
 |flt _=>obtain⟨t,rfl⟩:=r;rfl
 |ref _=>cases r;rfl
 |ty _=>cases r;rfl
variable{y:V}
theorem RelV.inj{x:V}(r:RelV x u)(q:RelV y u):x=y:=bQ (r.abs.symm.trans q.abs)
theorem Vals.inj:∀{xs ys:List V} {us:List aa},Vals xs us->Vals ys us->xs=ys
 |_,_,_,.nil,.nil=>rfl
 |_,_,_,.cons r t,.cons r' t'=>by rw[r.inj r',Vals.inj t t']
section
variable{X:Cx}{pins:List (Addr×Obj)}{σ:St}{H:Hp}{s:ae}{a:Addr}{xs ys:List V}
theorem SqL.of{K:aj}(h:H a=some (.lst xs)):SqL K H a xs:=.inl (.inl h)
theorem SqT.of{K:aj}(h:H a=some (.tup xs)):SqT K H a xs:=.inl (.inl h)
theorem Inv.list(I:Inv X pins σ H s)(h:SqL X.K H a xs):∃its:List aa,Vals xs its/\PlainL s.heap a its.toArray/\xs.length<=ay:=by
 rcases h with h|⟨o,its,n,hk,hc,hd,hs,hz,r⟩
 ·obtain⟨z,its,n,r,e⟩:=h.ok I.hok;exact⟨its,r,⟨_,n,e,rfl,rfl,rfl⟩,z⟩
 ·refine⟨its.toList,r,⟨o,n,I.kIn a o hk,hc,hd,by simpa using hs⟩,?_⟩;have e:=r.length;simp only[bP]at e;omega
theorem Inv.tuple(I:Inv X pins σ H s)(h:SqT X.K H a xs):∃its:List aa,Vals xs its/\IsTup s.heap a its.toArray/\xs.length<=ay:=by
 rcases h with h|⟨o,its,n,hk,hc,hs,hz,r⟩
 ·obtain⟨z,its,r,p⟩:=h.ok I.hok;exact⟨its,r,p,z⟩
 ·refine⟨its.toList,r,⟨o,I.kIn a o hk,hc,n,by simpa using hs⟩,?_⟩;have e:=r.length;simp only[bP]at e;omega
theorem Inv.list_inj(I:Inv X pins σ H s)(h:SqL X.K H a xs)(h':SqL X.K H a ys):xs=ys:=by
 obtain⟨its,r,⟨o,n,e,_,_,d⟩,_⟩:=I.list h;obtain⟨its',r',⟨o',n',e',_,_,d'⟩,_⟩:=I.list h';rw[e]at e';cases e';rw[d]at d';injection d' with d1 _;have:its=its':=by simpa using aM kP d1
 subst this;exact r.inj r'
theorem Inv.tuple_inj(I:Inv X pins σ H s)(h:SqT X.K H a xs)(h':SqT X.K H a ys):xs=ys:=by
 obtain⟨its,r,⟨o,e,_,n,d⟩,_⟩:=I.tuple h;obtain⟨its',r',⟨o',e',_,n',d'⟩,_⟩:=I.tuple h';rw[e]at e';cases e';rw[d]at d';injection d' with d1 _;have:its=its':=by simpa using aM kP d1
 subst this;exact r.inj r'
end
abbrev Cx.wish(X:Cx)(E:aa->ae->Prop):Cx:={ X with xe:=E }
abbrev Cx.nox(X:Cx):Cx:=X.wish λ_ _=>False
theorem Cx.Ok.wish(ok:X.Ok)(E:aa->ae->Prop):(X.wish E).Ok:=
 ⟨ok.mod,ok.kind,ok.glob,ok.blt,ok.above,ok.inj,ok.has,ok.cab,ok.hd,ok.frames,ok.stk,ok.exf,ok.bs,ok.bsz,ok.noex,ok.exfs,ok.funs,ok.frf⟩
theorem Cx.Ok.unwish(ok:(X.wish E).Ok):X.Ok:=
 ⟨ok.mod,ok.kind,ok.glob,ok.blt,ok.above,ok.inj,ok.has,ok.cab,ok.hd,ok.frames,ok.stk,ok.exf,ok.bs,ok.bsz,ok.noex,ok.exfs,ok.funs,ok.frf⟩
section
variable{X:Cx}{pins:List (Addr×Obj)}{σ:St}{H:Hp}{s:ae}{E:aa->ae->Prop}
theorem Inv.wish(I:Inv X pins σ H s)(E:aa->ae->Prop):Inv (X.wish E) pins σ H s:=⟨I.ok.wish E,I.os,I.bare,I.base,I.loc,I.cell,I.free,I.freeC,I.pin,I.hok,I.len⟩
theorem Inv.unwish(I:Inv (X.wish E) pins σ H s):Inv X pins σ H s:=⟨I.ok.unwish,I.os,I.bare,I.base,I.loc,I.cell,I.free,I.freeC,I.pin,I.hok,I.len⟩
theorem SP.unwish{D:Ends}{f:Flow}(h:SP (X.wish E) pins D f s'):SP X pins D f s':=by
 cases f with
 |next=>obtain⟨σ',H',I,q⟩:=h;exact⟨σ',H',I.unwish,q⟩
 |brk=>obtain⟨σ',H',I,q⟩:=h;exact⟨σ',H',I.unwish,q⟩
 |cont=>obtain⟨σ',H',I,q⟩:=h;exact⟨σ',H',I.unwish,q⟩
 |ret u=>obtain⟨v,σ',H',I,r,q⟩:=h;exact⟨v,σ',H',I.unwish,r,q⟩
theorem PSs.nox{st:List Stmt}{t:TS}(h:PSs X.nox st t):PSs X st t:=λpins s σ H D I hw=>
 bx (h pins s σ H D (I.wish _) hw) (λ_ _ q=>q.unwish) λ_ _ z=>bN z
end
section
variable{X:Cx}{st:Stmt}{rest:List Stmt}{t u:TS}{e:Expr}{te:TE}{pos:Pos}
def Oa:TS:=λD σ H=>D.nx σ H
def PY(t u:TS):TS:=λD σ H=>t { D with nx:=u D } σ H
theorem Ct:PSs X [] Oa:=λ_ _ σ H _ I h=>fH ⟨σ,H,I,h⟩
theorem vv(h1:PS X st t)(h2:PSs X rest u):PSs X (st::rest) (PY t u):=by
 intro pins s σ H D I h;refine iu (thn (h1 pins s σ H { D with nx:=u D } I h) λf s1 q=>?_);cases f with
 |next=>obtain⟨σ',H',I',q⟩:=q;exact h2 pins s1 σ' H' D I' q
 |ret v=>exact q
 |brk=>exact q
 |cont=>exact q
theorem xy(h1:PS X st t):PSs X [st] t:=by
 intro pins s σ H D I h;refine iu (thn (h1 pins s σ H D I h) λf s1 q=>?_);cases f with
 |next=>exact fH q
 |ret v=>exact q
 |brk=>exact q
 |cont=>exact q
theorem Inv.quiet{H:Hp}{s:ae}(I:Inv X pins σ H s):interactive X.env=false:=by simp[interactive,I.ok.kind]
def ER(te:TE):TS:=λD σ H=>te σ H λ_ H1=>D.nx σ H1
theorem zI(he:PE X e te)(hs:bX e none pos.line X.env=pure false:=by rfl):PS X (.Expr e pos) (ER te):=by intro pins s σ H D I h;exact ku (thn (he pins s σ H _ I h) λv s1 ⟨x,H1,I1,r1,q1⟩=>⟨σ,H1,I1,q1⟩) I.quiet hs
def Ob(te:TE):TS:=λD σ H=>te σ H D.rt
theorem BF(he:PE X e te):PS X (.Return (some e) pos) (Ob te):=by intro pins s σ H D I h;exact wpAny_Return_some (thn (he pins s σ H _ I h) λv s1 ⟨x,H1,I1,r1,q1⟩=>⟨x,σ,H1,I1,r1,q1⟩)
def PZ(c:TT)(t u:TS):TS:=λD σ H=>c σ H λb H1=>if b=true then t D σ H1 else u D σ H1
theorem JT{a b:List Stmt}{tc:TT}(hc:PT X c tc)(ha:PSs X a t)(hb:PSs X b u):PS X (.If c a b pos) (PZ tc t u):=by
 intro pins s σ H D I h;refine wpAny_If (thn (hc pins s σ H _ I h) λd s1 zz=>?_);obtain⟨H1,I1,q1⟩:=zz;cases d with
 |true=>exact ha pins s1 σ H1 D I1 q1
 |false=>exact hb pins s1 σ H1 D I1 q1
end
abbrev TG:=V->St->Hp->(St->Hp->Prop)->Prop
abbrev TGs:=List V->St->Hp->(St->Hp->Prop)->Prop
def PG(X:Cx)(target:Expr)(t:TG):Prop:=
 ∀(pins:List (Addr×Obj)) (s:ae) (σ:St) (H:Hp) (v:V) (u:aa) (Q:St->Hp->Prop),Inv X pins σ H s->RelV v u->t v σ H Q->
  ah (model X.prog X.w) X.A (assign target X.env u) (λ_ s'=>∃σ' H',Inv X pins σ' H' s'/\Q σ' H') X.xe s
def PGs(X:Cx)(ts:List Expr)(t:TGs):Prop:=
 ∀(pins:List (Addr×Obj)) (s:ae) (σ:St) (H:Hp) (vs:List V) (us:List aa) (Q:St->Hp->Prop),Inv X pins σ H s->Vals vs us->t vs σ H Q->
  ah (model X.prog X.w) X.A (assignInOrder ((bR ts X.env).map (·.2)) us) (λ_ s'=>∃σ' H',Inv X pins σ' H' s'/\Q σ' H') X.xe s
abbrev KH:=V->V->V->Hp->(Hp->Prop)->Prop
def Od(X:Cx)(t:KH):Prop:=
 ∀(pins:List (Addr×Obj)) (s:ae) (σ:St) (H:Hp) (o i v:V) (ov iv u:aa) (Q:Hp->Prop),Inv X pins σ H s->RelV o ov->RelV i iv->RelV v u->t o i v H Q->
  ah (model X.prog X.w) X.A (setItem ov iv u) (λ_ s'=>∃H',Inv X pins σ H' s'/\Q H') X.xe s
variable{es:List Expr}{tg:Expr}{te:TE}
section
variable{X:Cx}{pos:Pos}
def r6(i:Nat):TG:=λv σ H Q=>Q (σ.set i (some v)) H
theorem Cu(hN:X.N.Nodup)(hi:X.N[i]?=some x)(hx:Loc X.env.scope x)(hf:X.fn x=true\/X.env.scope.names.lookup x=some .local:=by first|exact .inl rfl|exact .inr rfl|assumption):PG X (.Name x pos) (r6 i):=by intro pins s σ H v u Q I r h;exact wpAny_assign_Name (AH I hN hi hx r (λs' I'=>⟨_,H,I',h⟩) hf)
def Oe:TGs:=λvs σ H Q=>vs=[]/\Q σ H
def JU(t:TG)(u:TGs):TGs:=λvs σ H Q=>∃v r,vs=v::r/\t v σ H λσ' H'=>u r σ' H' Q
theorem Hr:PGs X [] Oe:=by intro pins s σ H vs us Q I r h;obtain⟨e,h⟩:=h;subst e;cases r;exact assignInOrder_nil ⟨σ,H,I,h⟩
theorem ES{t:TG}{u:TGs}(h1:PG X e t)(h2:PGs X es u)
  (hs:(bR (e::es) X.env).map (·.2)=assign e X.env::(bR es X.env).map (·.2):=by rfl):PGs X (e::es) (JU t u):=by
 intro pins s σ H vs us Q I r h;obtain⟨v,vr,e1,h⟩:=h;subst e1;cases r with
 |cons r rr=>rw[hs];refine assignInOrder_cons (thn (h1 pins s σ H _ _ _ I r h) λ_ s1 zz=>?_);obtain⟨σ1,H1,I1,q1⟩:=zz;exact h2 pins s1 σ1 H1 _ _ Q I1 rr q1
def KI(K:aj)(n:Nat)(t:TGs):TG:=λv σ H Q=>∃a xs,v=.ref a/\SqT K H a xs/\xs.length=n/\t xs σ H Q
theorem KJ{k:Nat}{t:TGs}{n:Nat}(hc:X.calm=true)(h:PGs X es t)
  (hn:(bR es X.env).length=n:=by rfl) (hst:(bR es X.env).findIdx? (·.1)=none:=by rfl):PG X (.Tuple es k pos) (KI X.K n t):=by
 intro pins s σ H v u Q I r hw;obtain⟨a,xs,e1,hq,hl,hw⟩:=hw;subst e1;cases r;obtain⟨its,rv,ht,hz⟩:=I.tuple hq;refine assign_Tuple_tuple (I.ok.hd hc) ht (by simp[hn,<- hl,rv.length]) hst λh' hx=>?_;have I1:Inv X pins σ H { s with heap:=h' }:=I.kept (t':=s.toks) λb o e=>hx b o (aT (aI e)) e;exact h pins _ σ H xs _ Q I1 (by simpa using rv) hw
def KL(to ti:TE)(t:KH):TG:=λv σ H Q=>to σ H λo H1=>ti σ H1 λi H2=>t o i v H2 λH3=>Q σ H3
theorem ET{o i:Expr}{to ti:TE}{t:KH}(ho:PE X o to)(hi:PE X i ti)(hs:Od X t)
  (ha:∀v,assign (.Subscript o i pos) X.env v=(do
   let ov<-holding [v] (eval o X.env);let iv<-holding [v,ov] (eval i X.env)
   standAt pos
   holding [v,ov,iv] (setItem ov iv v)
   release [v,ov,iv] []):=by intro _;rfl):PG X (.Subscript o i pos) (KL to ti t):=by
 intro pins s σ H v u Q I r h;rw[ha];refine au (c7 (thn (ho pins s σ H _ I h) λov s1 zz=>?_));obtain⟨x,H1,I1,r1,q1⟩:=zz;refine au (c7 (thn (hi pins s1 σ H1 _ I1 q1) λiv s2 zz=>?_));obtain⟨y,H2,I2,r2,q2⟩:=zz;refine au (iF (au (c7 (thn (hs pins s2 σ H2 x y v ov iv u _ I2 r1 r2 r q2) λ_ s3 zz=>?_))));obtain⟨H3,I3,q3⟩:=zz;exact wpAny_release ⟨σ,H3,I3,q3⟩
def uL(te:TE)(g:TG):TS:=λD σ H=>te σ H λx H1=>g x σ H1 D.nx
theorem BG{g:TG}(he:PE X e te)(hg:PG X tg g)(hs:swapsWithSole [tg] e pos.line X.env=pure false:=by rfl)(hw:swappedStores [tg] e X.env=pure none:=by rfl)
  (h1:(bR [tg] X.env).map (·.2)=[assign tg X.env]:=by rfl):PS X (.Assign [tg] e pos) (uL te g):=by
 intro pins s σ H D I h;refine wpAny_Assign_stores (thn (he pins s σ H _ I h) λv s1 zz=>?_) hs hw;obtain⟨x,H1,I1,r1,q1⟩:=zz;rw[h1];exact thn (hg pins s1 σ H1 x v _ I1 r1 q1) λ_ s2 q=>q
theorem KM{pos':Pos}(hN:X.N.Nodup)(hi:X.N[i]?=some x)(hx:Loc X.env.scope x)(he:PE X e te)(hs:bX e (some (.Name x pos')) pos.line X.env=pure false:=by rfl)(hf:X.fn x=true\/X.env.scope.names.lookup x=some .local:=by first|exact .inl rfl|exact .inr rfl|assumption):
  PS X (.Assign [.Name x pos'] e pos) (uL te (r6 i)):=by
 intro pins s σ H D I h;refine wpAny_Assign_Name (thn (he pins s σ H _ I h) λv s1 zz=>?_) hs;obtain⟨y,H1,I1,r1,q1⟩:=zz;exact AH I1 hN hi hx r1 (λs2 I2=>⟨_,H1,I2,q1⟩) hf
end
structure It where
 go:Nat->Hp->Prop
 yld:Nat->Hp->V->Hp->Prop
 stop:Nat->Hp->Prop
def zJ(X:Cx)(pins:List (Addr×Obj))(H:Hp)(b:Addr):Prop:=
 H b=none/\b≠X.env.locals/\b∉X.fs/\(b∈X.ex\/X.s₀.heap.objs.size<=b)/\(∀x c,X.env.cells.lookup x=some c->c≠b)/\∀p∈X.pn++pins,p.1≠b
theorem Inv.fpOk{H H':Hp}{s:ae}(I:Inv X pins σ H s)(hb:s.heap.objs.size<=b)(hn:H' b=none):zJ X pins H' b:=by
 refine⟨hn,iK (bJ I.lt hb),I.nofs hb,.inr (bw I.sz hb),λx c e z=>?_,λp hp z=>?_⟩
 ·obtain⟨v,q⟩:=I.cell x c e;exact ak (bJ q.lt (by rw[z];exact hb)) (dE _)
 ·exact ak (bJ (aI (I.pin p hp).1) (by rw[z];exact hb)) (dE _)
structure Turn(P:ar)(w:ao)(K:aj)(tg:Expr)(J:It)(fp:List Addr)(it:Addr)(tn:Nat->Heap->Prop):Prop where
 mem:it∈fp
 obj:∀i h,tn i h->∀b∈fp,∃o,h.get? b=some o/\∀v,o.data≠.cell v
 keep:∀i h h',tn i h->(∀b∈fp,∀o,h.get? b=some o->h'.get? b=some o)->tn i h'
 item:∀(X:Cx),X.prog=P->X.w=w->X.K=K->X.calm=true->∀(i:Nat) (pins:List (Addr×Obj)) (s:ae) (σ:St) (H:Hp) (E:aa->ae->Prop),Inv X pins σ H s->(∀b∈fp,zJ X pins H b)->tn i s.heap->J.go i H->
  ah (model P w) X.A (pyNext (.ref it)) (λr s1=>∃u,r=some u/\
   ah (model P w) X.A (eG tg (.ref it) u) (λ_ s2=>∃x H',Inv X pins σ H' s2/\RelV x u/\J.yld i H x H'/\tn (i+1) s2.heap/\∀b∈fp,H' b=none) E s1) E s
 done:∀(X:Cx),X.prog=P->X.w=w->X.K=K->X.calm=true->∀(i:Nat) (pins:List (Addr×Obj)) (s:ae) (σ:St) (H:Hp) (E:aa->ae->Prop),Inv X pins σ H s->(∀b∈fp,zJ X pins H b)->tn i s.heap->J.stop i H->
  ah (model P w) X.A (pyNext (.ref it)) (λr s1=>r=none/\Inv X pins σ H s1) E s
 self:∀(A:av) (i:Nat) (s:ae) (Q:aa->ae->Prop) (E:aa->ae->Prop),tn i s.heap->Q (.ref it) s->ah (model P w) A (pyIter (.ref it)) Q E s
abbrev TI:=St->Hp->(It->Hp->Prop)->Prop
def PIE(X:Cx)(pins:List (Addr×Obj))(σ:St)(tg:Expr)(R:It->Hp->Prop)(itv:aa)(s2:ae):Prop:=
 ∃(it:Addr) (fp:List Addr) (tn:Nat->Heap->Prop) (J:It) (H':Hp),itv=.ref it/\Inv X pins σ H' s2/\Turn X.prog X.w X.K tg J fp it tn/\tn 0 s2.heap/\(∀b∈fp,zJ X pins H' b)/\R J H'
def PI(X:Cx)(tg iter:Expr)(wi:TI):Prop:=
 ∀(pins:List (Addr×Obj)) (s:ae) (σ:St) (H:Hp) (R:It->Hp->Prop),Inv X pins σ H s->wi σ H R->
  ah (model X.prog X.w) X.A (eval iter X.env) (λv s1=>ah (model X.prog X.w) X.A (pyIter v) (PIE X pins σ tg R) X.xe s1) X.xe s
theorem Cv{A:av}{s:ae}{o:Obj}{n:String}{vs:Array aa}{Q:Unit->ae->Prop}(ho:s.heap.get? it=some o)(hc:o.cls=.type n)(hd:o.data=.fields vs)
  (hn:["enumerate", "zip", "dict_itemiterator", "dict_reverseitemiterator", "odict_iterator", "itertools.zip_longest", "itertools.pairwise"].contains n=false) (hQ:Q () s):ah M A (eG tg (.ref it) u) Q E s:=by
 unfold eG;cases tg<;>first
  |exact aC hQ
  |(cases u<;>first
    |exact aC hQ
    |(refine au (wpAny_load ho ?_)
      rw[hc,hd];show ah M A (if (["enumerate", "zip", "dict_itemiterator", "dict_reverseitemiterator", "odict_iterator", "itertools.zip_longest", "itertools.pairwise"].contains n&&vs[0]?==some (rawInt _))=true then _ else _) Q E s;rw[ai (by intro h;rw[hn,gn]at h;cases h)];exact aC hQ))
def Itl(K:aj)(a:Addr):It:=
 ⟨λi H=>∃xs x,SqL K H a xs/\xs[i]?=some x,λi H x H'=>H'=H/\∀xs,SqL K H a xs->xs[i]?=some x,λi H=>∃xs,SqL K H a xs/\xs.length<=i⟩
def Itt(K:aj)(a:Addr):It:=
 ⟨λi H=>∃xs x,SqT K H a xs/\xs[i]?=some x,λi H x H'=>H'=H/\∀xs,SqT K H a xs->xs[i]?=some x,λi H=>∃xs,SqT K H a xs/\xs.length<=i⟩
def Itr(lo:Int)(n:Nat):It:=⟨λi _=>i<n,λi H x H'=>H'=H/\x=.int (lo+i),λi _=>n<=i⟩
theorem DQ{P:ar}{w:ao}{K:aj}(a it:Addr):Turn P w K tg (Itl K a) [it] it (λi h=>h.IsListIter it a i) where
 mem:=by simp
 obj:=λi h st b hb=>by
  have e:b=it:=by simpa using hb
  subst e;obtain⟨o,e,c,d⟩:=st;exact⟨o,e,λv z=>by rw[d]at z;cases z⟩
 keep:=λi h h' st k=>st.at λo e=>k it (by simp) o e
 item:=by intro X hP hw hK hc i pins s σ H E I hf st hg;subst hP hw hK;obtain⟨xs,x,hq,hx⟩:=hg;obtain⟨its,rv,p,hz⟩:=I.list hq;obtain⟨u,hu,ru⟩:=rv.get hx;obtain⟨f0,f1,f2,f3,f4,f5⟩:=hf it (by simp);refine wpAny_pyNext_list_item st p.isList (x:=u) (by simpa using hu) λh' st' sb=>?_;have I1:Inv X pins σ H { s with heap:=h' }:=I.turned (t':=s.toks) (λb o hb e=>(sb.2 b hb).trans e) f0 f1 f3 f4 f5;obtain⟨o,e,c,d⟩:=id st';exact⟨u,rfl,Cv (s:={ s with heap:=h' }) e c d (by decide) ⟨x,H,I1,ru,⟨rfl,λys hy=>by rw[I.list_inj hy hq];exact hx⟩,st',λb hb=>(hf b hb).1⟩⟩
 done:=by intro X hP hw hK hc i pins s σ H E I hf st hg;subst hP hw hK;obtain⟨xs,hq,hx⟩:=hg;obtain⟨its,rv,p,hz⟩:=I.list hq;obtain⟨f0,f1,f2,f3,f4,f5⟩:=hf it (by simp);have hl:=rv.length;exact wpAny_pyNext_list_end (I.ok.hd hc) st p.isList (by simp;omega) λh' eb=>⟨rfl,I.turned (t':=s.toks) (λb o hb e=>eb b o hb e) f0 f1 f3 f4 f5⟩
 self:=λ_ _ _ _ _ st h=>wpAny_pyIter_listiter st h
theorem BH{P:ar}{w:ao}{K:aj}(a it:Addr):Turn P w K tg (Itt K a) [it] it (λi h=>h.IsTupleIter it a i) where
 mem:=by simp
 obj:=λi h st b hb=>by
  have e:b=it:=by simpa using hb
  subst e;obtain⟨o,e,c,d⟩:=st;exact⟨o,e,λv z=>by rw[d]at z;cases z⟩
 keep:=λi h h' st k=>st.at λo e=>k it (by simp) o e
 item:=by intro X hP hw hK hc i pins s σ H E I hf st hg;subst hP hw hK;obtain⟨xs,x,hq,hx⟩:=hg;obtain⟨its,rv,p,hz⟩:=I.tuple hq;obtain⟨u,hu,ru⟩:=rv.get hx;obtain⟨f0,f1,f2,f3,f4,f5⟩:=hf it (by simp);refine wpAny_pyNext_tuple_item st (show s.heap.IsTuple a its.toArray from p) (x:=u) (by simpa using hu) λh' st' sb=>?_;have I1:Inv X pins σ H { s with heap:=h' }:=I.turned (t':=s.toks) (λb o hb e=>(sb.2 b hb).trans e) f0 f1 f3 f4 f5;obtain⟨o,e,c,d⟩:=id st';exact⟨u,rfl,Cv (s:={ s with heap:=h' }) e c d (by decide) ⟨x,H,I1,ru,⟨rfl,λys hy=>by rw[I.tuple_inj hy hq];exact hx⟩,st',λb hb=>(hf b hb).1⟩⟩
 done:=by intro X hP hw hK hc i pins s σ H E I hf st hg;subst hP hw hK;obtain⟨xs,hq,hx⟩:=hg;obtain⟨its,rv,p,hz⟩:=I.tuple hq;obtain⟨f0,f1,f2,f3,f4,f5⟩:=hf it (by simp);have hl:=rv.length;exact wpAny_pyNext_tuple_end (I.ok.hd hc) st (show s.heap.IsTuple a its.toArray from p) (by simp;omega) λh' eb=>⟨rfl,I.turned (t':=s.toks) (λb o hb e=>eb b o hb e) f0 f1 f3 f4 f5⟩
 self:=λ_ _ _ _ _ st h=>wpAny_pyIter_tupleiter st h
theorem BI{P:ar}{w:ao}{K:aj}(it:Addr)(lo:Int)(n:Nat):Turn P w K tg (Itr lo n) [it] it (λi h=>IsRangeIter h it (lo+(i:Nat) * 1) ((n:Int) - (i:Nat)) 1) where
 mem:=by simp
 obj:=λi h st b hb=>by
  have e:b=it:=by simpa using hb
  subst e;exact⟨_,st,λv z=>by
   have z':Data.fields _=Data.cell v:=z;cases z'⟩
 keep:=λi h h' st k=>k it (by simp) _ st
 item:=by intro X hP hw hK hc i pins s σ H E I hf st hg;subst hP hw hK;obtain⟨f0,f1,f2,f3,f4,f5⟩:=hf it (by simp);have W:=Walks.range (prog:=X.prog) (w:=X.w) (I.ok.hd hc) it lo 1 n;refine W.item i s _ _ hg st λv h' tk hv st' kk=>?_;obtain⟨t,rfl⟩:=hv;have I1:Inv X pins σ H { s with heap:=h',toks:=tk }:=I.turned (λb o hb e=>kk b o (by simpa using hb) e) f0 f1 f3 f4 f5;refine⟨_,rfl,Cv (s:={ s with heap:=h',toks:=tk }) (n:="range_iterator") st' rfl rfl (by decide) ⟨.int (lo+i),H,I1,⟨t,?_⟩,⟨rfl,rfl⟩,st',λb hb=>(hf b hb).1⟩⟩;rw[Int.mul_one]
 done:=by intro X hP hw hK hc i pins s σ H E I hf st hg;subst hP hw hK;obtain⟨f0,f1,f2,f3,f4,f5⟩:=hf it (by simp);exact wpAny_pyNext_range_end (I.ok.hd hc) st (by have:n<=i:=hg;omega) λh' eb=>⟨rfl,I.turned (t':=s.toks) (λb o hb e=>eb b o hb e) f0 f1 f3 f4 f5⟩
 self:=λ_ _ _ _ _ st h=>wpAny_pyIter_rangeiter st h
variable{l:Expr}{tl:TE}{ta:TA}{p:Pos}{body:List Stmt}
section
variable{X:Cx}{tg:Expr}
def EU(K:aj)(tl:TE):TI:=λσ H R=>tl σ H λx H1=>∃a,x=.ref a/\(∃xs,SqL K H1 a xs)/\R (Itl K a) H1
def KN(K:aj)(tl:TE):TI:=λσ H R=>tl σ H λx H1=>∃a,x=.ref a/\(∃xs,SqT K H1 a xs)/\R (Itt K a) H1
theorem Ht(hl:PE X l tl):PI X tg l (EU X.K tl):=by
 intro pins s σ H R I h;refine thn (hl pins s σ H _ I h) λv s1 zz=>?_;obtain⟨x,H1,I1,r1,q1⟩:=zz;obtain⟨a,e,⟨xs,hq⟩,q⟩:=q1;subst e;cases r1;obtain⟨its,rv,p,hz⟩:=I1.list hq;refine fB p.isList ?_;refine⟨s1.heap.objs.size,[s1.heap.objs.size],_,_,H1,rfl,I1.kept (t':=s1.toks) λb o e=>aL _ e,DQ a _,⟨_,bA _ rfl,rfl,rfl⟩,λb hb=>?_,q⟩;have e:b=s1.heap.objs.size:=by simpa using hb
 subst e;exact I1.fpOk (aA _) (I1.hok.fresh (aA _))
theorem KO(hl:PE X l tl):PI X tg l (KN X.K tl):=by
 intro pins s σ H R I h;refine thn (hl pins s σ H _ I h) λv s1 zz=>?_;obtain⟨x,H1,I1,r1,q1⟩:=zz;obtain⟨a,e,⟨xs,hq⟩,q⟩:=q1;subst e;cases r1;obtain⟨its,rv,p,hz⟩:=I1.tuple hq;refine ib (show s1.heap.IsTuple a its.toArray from p) ?_;refine⟨s1.heap.objs.size,[s1.heap.objs.size],_,_,H1,rfl,I1.kept (t':=s1.toks) λb o e=>aL _ e,BH a _,⟨_,bA _ rfl,rfl,rfl⟩,λb hb=>?_,q⟩;have e:b=s1.heap.objs.size:=by simpa using hb
 subst e;exact I1.fpOk (aA _) (I1.hok.fresh (aA _))
theorem AI{H:Hp}{s:ae}{R:It->Hp->Prop}{lo hi:Int}{t u v:Tok}{tk:Nat}(I:Inv X pins σ H s)(h1:-(2 ^ 62)<=lo)(h2:lo<2 ^ 62)(h3:-(2 ^ 62)<=hi)(h4:hi<2 ^ 62)
  (q:R (Itr lo (hi - lo).toNat) H):ah (model X.prog X.w) X.A (pyIter (.ref s.heap.objs.size)) (PIE X pins σ tg R) E { s with heap:=s.heap.push { cls:=.type "range", data:=.fields #[.int lo t,.int hi u,.int 1 v] },toks:=tk }:=by
 refine wpAny_pyIter_range (IsRange.new ..) (small_one h1 h2 h3 h4) ?_;have I1:Inv X pins σ H { s with heap:=s.heap.push { cls:=.type "range", data:=.fields #[.int lo t,.int hi u,.int 1 v] },toks:=tk }:=I.kept λb o e=>aL _ e;refine⟨(s.heap.push { cls:=.type "range", data:=.fields #[.int lo t,.int hi u,.int 1 v] }).objs.size,[(s.heap.push { cls:=.type "range", data:=.fields #[.int lo t,.int hi u,.int 1 v] }).objs.size],_,_,H,rfl,
  I1.kept (t':=tk) λb o e=>aL _ e,BI _ lo (hi - lo).toNat,?_,λb hb=>?_,q⟩
 ·have e1:lo+((0:Nat):Int) * 1=lo:=by simp
  have e2:(((hi - lo).toNat:Nat):Int) - ((0:Nat):Int)=mf lo hi 1:=by rw[rangeSize_one];split<;>omega
  show IsRangeIter _ _ (lo+((0:Nat):Int) * 1) ((((hi - lo).toNat:Nat):Int) - ((0:Nat):Int)) 1;rw[e1,e2];exact bA _ rfl
 ·have e:b=(s.heap.push { cls:=.type "range", data:=.fields #[.int lo t,.int hi u,.int 1 v] }).objs.size:=by simpa using hb
  subst e;exact I1.fpOk (aA _) (I1.hok.fresh (aA _))
def JV(ta:TA):TI:=λσ H R=>ta σ H λvs H1=>∃j:Int,vs=[.int j]/\-(2 ^ 62)<=j/\j<2 ^ 62/\R (Itr 0 j.toNat) H1
def JW(ta:TA):TI:=λσ H R=>ta σ H λvs H1=>∃i j:Int,vs=[.int i,.int j]/\(-(2 ^ 62)<=i/\i<2 ^ 62/\-(2 ^ 62)<=j/\j<2 ^ 62)/\R (Itr i (j - i).toNat) H1
theorem DS{a:Expr}(hg:Gl X "range")(hm:X.mg "range" = none)(ha:PA X [a] ta)(hs:aq [a] X.env=[(false,eval a X.env)]:=by rfl):PI X tg (.Call (.Name "range" p) [a] [] pos) (JV ta):=by
 intro pins s σ H R I h;refine Call_ (uZ I hg hm boot_range (callWith_type1 (thn (ha pos pins s σ H _ I h) λus s1 zz=>?_) hs rfl));obtain⟨vs,H1,I1,r1,q1⟩:=zz;obtain⟨j,e,q1,q2,q⟩:=q1;subst e;cases r1 with
 |cons r rr=>cases rr;obtain⟨t,rfl⟩:=r;exact call_range_1 (AI I1 (by omega) (by omega) q1 q2 (by simpa using q))
theorem DT{a b:Expr}(hg:Gl X "range")(hm:X.mg "range" = none)(ha:PA X [a,b] ta)(hs:aq [a,b] X.env=[(false,eval a X.env),(false,eval b X.env)]:=by rfl)(hs2:aq [b] X.env=[(false,eval b X.env)]:=by rfl):
  PI X tg (.Call (.Name "range" p) [a,b] [] pos) (JW ta):=by
 intro pins s σ H R I h;refine Call_ (uZ I hg hm boot_range (callWith_type1 (thn (ha pos pins s σ H _ I h) λus s1 zz=>?_) (by rw[hs,hs2]) (by rw[hs2];rfl)));obtain⟨vs,H1,I1,r1,q1⟩:=zz;obtain⟨i,j,e,⟨q1,q2,q3,q4⟩,q⟩:=q1;subst e;cases r1 with
 |cons r rr=>
  cases rr with
  |cons r' rr=>cases rr;obtain⟨t,rfl⟩:=r;obtain⟨t',rfl⟩:=r';exact call_range_2 (AI I1 q1 q2 q3 q4 q)
def KP(wi:TI)(g:TG)(tb:TS):TS:=λD σ H=>wi σ H λJ H1=>∃W:Nat->Nat->St->Hp->Prop,(∃m,W 0 m σ H1)/\∀i m σ H,W i m σ H->
 (J.stop i H/\D.nx σ H)\/(J.go i H/\∃N:St->Hp->Prop,(∀σ' H',N σ' H'->∃m',m'<m/\W (i+1) m' σ' H')/\∀x H',J.yld i H x H'->g x σ H' λσ2 H2=>tb { D with nx:=N,ct:=N,bk:=D.nx } σ2 H2)
def xJ(fp:List Addr)(h:Heap):List (Addr×Obj):=fp.filterMap λb=>(h.get? b).map λo=>(b,o)
theorem rH{fp:List Addr}{h:Heap}{o:Obj}(hb:b∈fp)(e:h.get? b=some o):(b,o)∈xJ fp h:=eD.mpr ⟨b,hb,by rw[e];rfl⟩
theorem DU{fp:List Addr}{h:Heap}{p:Addr×Obj}(hp:p∈xJ fp h):p.1∈fp/\h.get? p.1=some p.2:=by
 obtain⟨b,hb,e⟩:=eD.mp hp;cases q:h.get? b with
 |none=>rw[q]at e;cases e
 |some o=>rw[q]at e;have e':(b,o)=p:=bQ e;subst e';exact⟨hb,q⟩
theorem Inv.pinned{H:Hp}{s:ae}{fp:List Addr}(I:Inv X pins σ H s)(hf:∀b∈fp,zJ X pins H b)(ho:∀b∈fp,∃o,s.heap.get? b=some o/\∀v,o.data≠.cell v):Inv X (pins++xJ fp s.heap) σ H s:=
 I.pins_of λp hp=>(aN.mp hp).elim (λz=>I.pin p (ba _ z)) λz=>by obtain⟨hb,e⟩:=DU z;obtain⟨f0,f1,f2,_⟩:=hf p.1 hb;obtain⟨o,e',d⟩:=ho p.1 hb;rw[e]at e';cases e';exact⟨e,f0,f1,f2,d⟩
theorem Inv.unpinned{pl:List (Addr×Obj)}{H:Hp}{s:ae}(I:Inv X (pins++pl) σ H s):Inv X pins σ H s:=I.pins_of λp hp=>I.pin p (ba _ (bb _ hp))
theorem EV{iter:Expr}{wi:TI}{g:TG}{tb:TS}(hp:PassesOwn (model X.prog X.w) X.A X.env X.xe)(hc:X.calm=true)(hi:PI X tg iter wi)(hg:PG X tg g)(hb:PSs X body tb)
  (hs:∀x,fC iter X.env x=pure x:=by intro _;rfl):PS X (.For tg iter body [] pos) (KP wi g tb):=by
 intro pins s σ H D I h;refine wpAny_For (thn (hi pins s σ H _ I h) λv s1 h1=>thn h1 λitv s2 h2=>?_) hs;obtain⟨it,fp,tn,J,H2,e,I2,T,st2,f2,W,⟨m0,w0⟩,turn⟩:=h2;subst e;have stat:∀{H':Hp},(∀b∈fp,H' b=none)->∀b∈fp,zJ X pins H' b:=λhn b hb=>⟨hn b hb,(f2 b hb).2⟩;refine codeAny_forLoop_any (λn s'=>∃i σ' H',Inv X pins σ' H' s'/\tn i s'.heap/\(∀b∈fp,H' b=none)/\W i n σ' H') ?_ m0 ⟨0,σ,H2,I2,st2,λb hb=>(f2 b hb).1,w0⟩;rintro n s3 ⟨i,σ3,H3,I3,st3,fr3,w3⟩;rcases turn i n σ3 H3 w3 with ⟨stop,qn⟩|⟨go,N,hN,step⟩
 ·refine fI hp (thn (T.done X rfl rfl rfl hc i pins s3 σ3 H3 X.xe I3 (stat fr3) st3 stop) λr s4 zz=>?_);obtain⟨hr,I4⟩:=zz;subst hr;exact fH ⟨σ3,H3,I4,qn⟩
 ·refine fI hp (thn (T.item X rfl rfl rfl hc i pins s3 σ3 H3 X.xe I3 (stat fr3) st3 go) λr s4 zz=>?_);obtain⟨u,hr,h4⟩:=zz;subst hr;refine fI hp (thn h4 λ_ s5 zz=>?_);obtain⟨x,H5,I5,r5,y5,st5,fr5⟩:=zz;have I5':=I5.pinned (stat fr5) (T.obj _ _ st5);refine fI hp (thn (hg _ s5 σ3 H5 x u _ I5' r5 (step x H5 y5)) λ_ s6 zz=>?_);obtain⟨σ6,H6,I6,q6⟩:=zz;refine fI hp (thn (hb _ s6 σ6 H6 _ I6 q6) λf s7 q7=>?_);have again:∀{σ7:St} {H7:Hp},Inv X (pins++xJ fp s5.heap) σ7 H7 s7->N σ7 H7->∃m,m<n/\∃i σ' H',Inv X pins σ' H' s7/\tn i s7.heap/\(∀b∈fp,H' b=none)/\W i m σ' H':=λ{σ7 H7} I7 n7=>by obtain⟨m',hm,w7⟩:=hN σ7 H7 n7;refine⟨m',hm,i+1,σ7,H7,I7.unpinned,T.keep _ _ _ st5 λb hb o e=>(I7.pin (b,o) (ba _ (ba _ (rH hb e)))).1,λb hb=>?_,w7⟩;obtain⟨o,e,d⟩:=T.obj _ _ st5 b hb;exact(I7.pin (b,o) (ba _ (ba _ (rH hb e)))).2.1
  cases f with
  |next=>obtain⟨σ7,H7,I7,n7⟩:=q7;exact again I7 n7
  |cont=>obtain⟨σ7,H7,I7,n7⟩:=q7;exact again I7 n7
  |brk=>obtain⟨σ7,H7,I7,q7⟩:=q7;exact⟨σ7,H7,I7.unpinned,q7⟩
  |ret v=>obtain⟨x7,σ7,H7,I7,r7,q7⟩:=q7;exact⟨x7,σ7,H7,I7.unpinned,r7,q7⟩
end
abbrev R2:=V->V->Hp->VK->Prop
def OpR(X:Cx)(f:aa->aa->Sem aa)(r:R2):Prop:=
 ∀(pins:List (Addr×Obj)) (s:ae) (σ:St) (H:Hp) (x y:V) (v u:aa) (Q:VK),Inv X pins σ H s->RelV x v->RelV y u->r x y H Q->
  ah (model X.prog X.w) X.A (f v u) (EP X pins σ Q) X.xe s
def UnR(X:Cx)(f:aa->Sem aa)(r:V->Hp->VK->Prop):Prop:=
 ∀(pins:List (Addr×Obj)) (s:ae) (σ:St) (H:Hp) (x:V) (v:aa) (Q:VK),Inv X pins σ H s->RelV x v->r x H Q->
  ah (model X.prog X.w) X.A (f v) (EP X pins σ Q) X.xe s
def pD(X:Cx)(f:aa)(r:List V->Hp->VK->Prop):Prop:=
 ∀(pins:List (Addr×Obj)) (s:ae) (σ:St) (H:Hp) (xs:List V) (us:List aa) (Q:VK),Inv X pins σ H s->Vals xs us->r xs H Q->
  ah (model X.prog X.w) X.A (call f us) (EP X pins σ Q) X.xe s
def tOp(r:R2)(ta tb:TE):TE:=λσ H Q=>ta σ H λx H1=>tb σ H1 λy H2=>r x y H2 Q
def tUn(r:V->Hp->VK->Prop)(ta:TE):TE:=λσ H Q=>ta σ H λx H1=>r x H1 Q
def rI(C:Int->Int->Prop)(g:Int->Int->V):R2:=λx y H Q=>∃i j,x=.int i/\y=.int j/\C i j/\Q (g i j) H
def rI0(g:Int->Int->V):R2:=λx y H Q=>∃i j,x=.int i/\y=.int j/\Q (g i j) H
def rU(g:Int->V):V->Hp->VK->Prop:=λx H Q=>∃i,x=.int i/\Q (g i) H
variable{f:aa->aa->Sem aa}
section
variable{X:Cx}{a b c:Expr}{ta tb tc:TE}{pos:Pos}
theorem KQ(ha:PE X a ta)(hb:PE X b tb){s:ae}{H:Hp}(I:Inv X pins σ H s)
  (h:ta σ H λx H1=>tb σ H1 λy H2=>R x y H2)
  (hf:∀v u s2 x y H2,Inv X pins σ H2 s2->RelV x v->RelV y u->R x y H2->ah (model X.prog X.w) X.A (f v u) Q X.xe s2):
  ah (model X.prog X.w) X.A (eval a X.env) (λv s₁=>ah (model X.prog X.w) X.A (eval b X.env) (λu s₂=>ah (model X.prog X.w) X.A (f v u) Q X.xe s₂) X.xe s₁) X.xe s:=by
 refine thn (ha pins s σ H _ I h) λv s1 zz=>?_;obtain⟨x,H1,I1,r1,q1⟩:=zz;refine thn (hb pins s1 σ H1 _ I1 q1) λu s2 zz=>?_;obtain⟨y,H2,I2,r2,q2⟩:=zz;exact hf v u s2 x y H2 I2 r1 r2 q2
theorem EW{op:gH}{r:R2}(ho:OpR X (cF op) r)(ha:PE X a ta)(hb:PE X b tb):PE X (.BinOp a op b pos) (tOp r ta tb):=by intro pins s σ H Q I h;exact wpAny_BinOp (KQ ha hb I h λv u s2 x y H2 I2 rx ry q=>ho pins s2 σ H2 x y v u Q I2 rx ry q)
theorem Of{op:UnaryOp}{r:V->Hp->VK->Prop}(ho:UnR X (unaryOp op) r)(ha:PE X a ta):PE X (.UnaryOp op a pos) (tUn r ta):=by intro pins s σ H Q I h;exact UnaryOp_ (thn (ha pins s σ H _ I h) λv s1 ⟨x,H1,I1,r1,q1⟩=>ho pins s1 σ H1 x v Q I1 r1 q1)
theorem opI{C:Int->Int->Prop}{g:Int->Int->Int}
  (rule:∀(i j:Int) (t u:Tok) (s:ae) (Q:aa->ae->Prop) (E:aa->ae->Prop),C i j->Q (.int (g i j) s.toks) { s with toks:=s.toks+1 }->ah (model X.prog X.w) X.A (f (.int i t) (.int j u)) Q E s):
  OpR X f (rI C λi j=>.int (g i j)):=by
 intro pins s σ H x y v u Q I rx ry h;obtain⟨i,j,rfl,rfl,hc,q⟩:=h;obtain⟨t,rfl⟩:=rx;obtain⟨t',rfl⟩:=ry;exact rule i j t t' s _ _ hc ⟨.int (g i j),H,I.tok _,⟨_,rfl⟩,q⟩
theorem P2{g:Int->Int->Int}
  (rule:∀(i j:Int) (t u:Tok) (s:ae) (Q:aa->ae->Prop) (E:aa->ae->Prop),Q (.int (g i j) s.toks) { s with toks:=s.toks+1 }->ah (model X.prog X.w) X.A (f (.int i t) (.int j u)) Q E s):
  OpR X f (rI0 λi j=>.int (g i j)):=by
 intro pins s σ H x y v u Q I rx ry h;obtain⟨i,j,rfl,rfl,q⟩:=h;obtain⟨t,rfl⟩:=rx;obtain⟨t',rfl⟩:=ry;exact rule i j t t' s _ _ ⟨.int (g i j),H,I.tok _,⟨_,rfl⟩,q⟩
theorem Hu{g:Int->Int->Bool}
  (rule:∀(i j:Int) (t u:Tok) (s:ae) (Q:aa->ae->Prop) (E:aa->ae->Prop),Q (.bool (g i j)) s->ah (model X.prog X.w) X.A (f (.int i t) (.int j u)) Q E s):
  OpR X f (rI0 λi j=>.bl (g i j)):=by
 intro pins s σ H x y v u Q I rx ry h;obtain⟨i,j,rfl,rfl,q⟩:=h;obtain⟨t,rfl⟩:=rx;obtain⟨t',rfl⟩:=ry;exact rule i j t t' s _ _ ⟨.bl (g i j),H,I,rfl,q⟩
def KR(i j:Int):Prop:=0<j/\j<1073741824
def Og(i j:Int):Prop:=0<=j/\j<=1000000/\i.natAbs<2 ^ 64
def Hv(i j:Int):Prop:=(-(2 ^ 64)<i/\i<2 ^ 64)\/(-(2 ^ 64)<j/\j<2 ^ 64)
theorem Hv.ok{i j:Int}(h:Hv i j):IntMulOk i j:=by
 rcases h with ⟨h1,h2⟩|⟨h1,h2⟩
 ·exact .of_left (kE h1 h2)
 ·exact .of_right (kE h1 h2)
theorem KU:OpR X (cF .Add) (rI0 λi j=>.int (i+j)):=P2 λ_ _ _ _ _ _ _ q=>add_int q
theorem KW:OpR X (cF .Mult) (rI Hv λi j=>.int (i * j)):=opI λ_ _ _ _ _ _ _ hc q=>mul_int q hc.ok
theorem Hw:OpR X (cF .FloorDiv) (rI KR λi j=>.int (i / j)):=opI λi j _ _ _ _ _ hc q=>by have h1:(0:Int)<j:=hc.1;have h2:j<1073741824:=hc.2;exact floordiv_int (by omega) (by rw[Int.fdiv_eq_ediv_of_nonneg i (by omega)];exact q) (.inl (PyProof.noPylong_small (by omega)))
theorem KY:OpR X (cF .Mod) (rI (λ_ j=>0<j) λi j=>.int (i % j)):=opI λi j _ _ _ _ _ hc q=>by have h1:(0:Int)<j:=hc;exact mod_int' (by omega) (by rw[Int.fmod_eq_emod_of_nonneg i (by omega)];exact q)
theorem KZ:OpR X (cF .Pow) (rI Og λi j=>.int (i ^ j.toNat)):=opI λ_ _ _ _ _ _ _ hc q=>pow_int_small hc.1 hc.2.1 hc.2.2 q
theorem unI{f:aa->Sem aa}{g:Int->Int}
  (rule:∀(i:Int) (t:Tok) (s:ae) (Q:aa->ae->Prop) (E:aa->ae->Prop),Q (.int (g i) s.toks) { s with toks:=s.toks+1 }->ah (model X.prog X.w) X.A (f (.int i t)) Q E s):
  UnR X f (rU λi=>.int (g i)):=by
 intro pins s σ H x v Q I rx h;obtain⟨i,rfl,q⟩:=h;obtain⟨t,rfl⟩:=rx;exact rule i t s _ _ ⟨.int (g i),H,I.tok _,⟨_,rfl⟩,q⟩
theorem K0:UnR X (unaryOp .USub) (rU λi=>.int (-i)):=unI λ_ _ _ _ _ q=>neg_int q
end
def EX:V->V->Bool
 |.non,.non=>true|.non,.int _=>true|.int _,.non=>true|.non,.bl _=>true|.bl _,.non=>true|.non,.str _=>true|.str _,.non=>true
 |.int _,.int _=>true|.bl _,.bl _=>true|.str _,.str _=>true|.byt _,.byt _=>true
 |.int _,.str _=>true|.str _,.int _=>true|.bl _,.str _=>true|.str _,.bl _=>true
 |_,_=>false
def rEq:R2:=λx y H Q=>EX x y=true/\Q (.bl (decide (x=y))) H
def rNe:R2:=λx y H Q=>EX x y=true/\Q (.bl (!decide (x=y))) H
theorem Cy{i j:Int}:decide (V.int i=V.int j)=(i==j):=by rw[dB];simp
theorem EY{i j:Bool}:decide (V.bl i=V.bl j)=(i==j):=by rw[dB];simp
theorem CA{i j:Str}:decide (V.str i=V.str j)=(i==j):=by rw[dB];simp
theorem CB{i j:Array UInt8}:decide (V.byt i=V.byt j)=(i.toList==j.toList):=by rw[dB];cases i;cases j;simp
variable{op':eB}{r':R2}
section
variable{X:Cx}{a b c:Expr}{ta tb tc:TE}{pos:Pos}
theorem n5{H:Hp}{s:ae}{Q:VK}{k k':Bool}(I:Inv X pins σ H s)(q:Q (.bl k) H)(e:k=k'):EP X pins σ Q (.bool k') s:=by subst e;exact⟨.bl k,H,I,rfl,q⟩
theorem Oh:OpR X (aW .Eq) rEq:=by
 intro pins s σ H x y v u Q I rx ry h;obtain⟨hs,q⟩:=h;cases x with
 |non=>
  cases rx;cases y with
  |non=>cases ry;exact lE (n5 I q (by simp))
  |bl j=>cases ry;exact lF (n5 I q (by simp))
  |int j=>obtain⟨t',rfl⟩:=ry;exact lW (n5 I q (by simp))
  |str j=>obtain⟨t',rfl⟩:=ry;exact lX (n5 I q (by simp))
  |_=>exact ak (show false=true from hs) bc
 |bl i=>
  cases rx;cases y with
  |non=>cases ry;exact lG (n5 I q (by simp))
  |bl j=>cases ry;exact eq_bool (n5 I q EY)
  |str j=>obtain⟨t',rfl⟩:=ry;exact lI (n5 I q (by simp))
  |_=>exact ak (show false=true from hs) bc
 |int i=>
  obtain⟨t,rfl⟩:=rx;cases y with
  |non=>cases ry;exact lY (n5 I q (by simp))
  |int j=>obtain⟨t',rfl⟩:=ry;exact eq_int (n5 I q Cy)
  |str j=>obtain⟨t',rfl⟩:=ry;exact lZ (n5 I q (by simp))
  |_=>exact ak (show false=true from hs) bc
 |str i=>
  obtain⟨t,rfl⟩:=rx;cases y with
  |non=>cases ry;exact l0 (n5 I q (by simp))
  |bl j=>cases ry;exact lK (n5 I q (by simp))
  |int j=>obtain⟨t',rfl⟩:=ry;exact l3 (n5 I q (by simp))
  |str j=>obtain⟨t',rfl⟩:=ry;exact eq_str (n5 I q CA)
  |_=>exact ak (show false=true from hs) bc
 |byt i=>
  obtain⟨t,rfl⟩:=rx;cases y with
  |byt j=>obtain⟨t',rfl⟩:=ry;exact W.eq_bytes (n5 I q CB)
  |_=>exact ak (show false=true from hs) bc
 |_=>cases y<;>exact ak (show false=true from hs) bc
theorem Oi:OpR X (aW .NotEq) rNe:=by
 intro pins s σ H x y v u Q I rx ry h;obtain⟨hs,q⟩:=h;cases x with
 |non=>
  cases rx;cases y with
  |non=>cases ry;exact lL (n5 I q (by simp))
  |bl j=>cases ry;exact lN (n5 I q (by simp))
  |int j=>obtain⟨t',rfl⟩:=ry;exact l4 (n5 I q (by simp))
  |str j=>obtain⟨t',rfl⟩:=ry;exact l5 (n5 I q (by simp))
  |_=>exact ak (show false=true from hs) bc
 |bl i=>
  cases rx;cases y with
  |non=>cases ry;exact lQ (n5 I q (by simp))
  |bl j=>cases ry;exact ne_bool (n5 I q (aM not EY))
  |str j=>obtain⟨t',rfl⟩:=ry;exact lS (n5 I q (by simp))
  |_=>exact ak (show false=true from hs) bc
 |int i=>
  obtain⟨t,rfl⟩:=rx;cases y with
  |non=>cases ry;exact l6 (n5 I q (by simp))
  |int j=>obtain⟨t',rfl⟩:=ry;exact ne_int (n5 I q (aM not Cy))
  |str j=>obtain⟨t',rfl⟩:=ry;exact l7 (n5 I q (by simp))
  |_=>exact ak (show false=true from hs) bc
 |str i=>
  obtain⟨t,rfl⟩:=rx;cases y with
  |non=>cases ry;exact l8 (n5 I q (by simp))
  |bl j=>cases ry;exact lV (n5 I q (by simp))
  |int j=>obtain⟨t',rfl⟩:=ry;exact l9 (n5 I q (by simp))
  |str j=>obtain⟨t',rfl⟩:=ry;exact ne_str (n5 I q (aM not CA))
  |_=>exact ak (show false=true from hs) bc
 |byt i=>
  obtain⟨t,rfl⟩:=rx;cases y with
  |byt j=>obtain⟨t',rfl⟩:=ry;exact W.ne_bytes (n5 I q (aM not CB))
  |_=>exact ak (show false=true from hs) bc
 |_=>cases y<;>exact ak (show false=true from hs) bc
theorem Oj:OpR X (aW .Lt) (rI0 λi j=>.bl (decide (i<j))):=Hu λ_ _ _ _ _ _ _ q=>lt_int q
theorem Ol:OpR X (aW .LtE) (rI0 λi j=>.bl (decide (i<=j))):=Hu λ_ _ _ _ _ _ _ q=>le_int q
theorem Om:OpR X (aW .Gt) (rI0 λi j=>.bl (decide (j<i))):=Hu λ_ _ _ _ _ _ _ q=>gt_int q
theorem On:OpR X (aW .GtE) (rI0 λi j=>.bl (decide (j<=i))):=Hu λ_ _ _ _ _ _ _ q=>ge_int q
theorem K1:OpR X (aW .Is) (λx y H Q=>y=.non/\Q (.bl (decide (x=.non))) H):=by
 intro pins s σ H x y v u Q I rx ry h;obtain⟨rfl,q⟩:=h;cases ry;refine is_none_gen (n5 I q ?_);cases x<;>first
  |(cases rx;rfl)
  |(obtain⟨t,rfl⟩:=rx;rfl)
theorem Hy:OpR X (aW .IsNot) (λx y H Q=>y=.non/\Q (.bl (!decide (x=.non))) H):=by
 intro pins s σ H x y v u Q I rx ry h;obtain⟨rfl,q⟩:=h;cases ry;refine isnot_none_gen (n5 I q ?_);cases x<;>first
  |(cases rx;rfl)
  |(obtain⟨t,rfl⟩:=rx;rfl)
theorem Hz{r:R2}(ho:OpR X (aW op) r)(ha:PE X a ta)(hb:PE X b tb)(hm:dY op b=false):PE X (.Compare a [op] [b] pos) (tOp r ta tb):=by intro pins s σ H Q I h;exact wpAny_Compare1 (KQ ha hb I h λv u s2 x y H2 I2 rx ry q=>ho pins s2 σ H2 x y v u Q I2 rx ry q) hm
def EZ(t:TE):TT:=λσ H Q=>t σ H λx H'=>∃k,x=.bl k/\Q k H'
theorem HA{r:R2}(ho:OpR X (aW op) r)(ha:PE X a ta)(hb:PE X b tb)(hm:dY op b=false):PT X (.Compare a [op] [b] pos) (EZ (tOp r ta tb)):=by
 intro pins s σ H Q I h;refine js (thn (ha pins s σ H _ I h) λv s1 ⟨x,H1,I1,r1,q1⟩=>thn (hb pins s1 σ H1 _ I1 q1) λu s2 ⟨y,H2,I2,r2,q2⟩=>
  thn (ho pins s2 σ H2 x y v u _ I2 r1 r2 q2) λc s3 ⟨z,H3,I3,r3,k,e,q3⟩=>?_) hm
 subst e;cases r3;exact cp ⟨H3,I3,q3⟩
def BJ(r r':R2)(ta tb tc:TE):TE:=λσ H Q=>ta σ H λx H1=>tb σ H1 λy H2=>r x y H2 λz H3=>∃k,z=.bl k/\
 (if k=true then tc σ H3 λw' H4=>r' y w' H4 Q else Q (.bl false) H3)
theorem E1{r:R2}(ho:OpR X (aW op) r)(ho':OpR X (aW op') r')(ha:PE X a ta)(hb:PE X b tb)(hc:PE X c tc)
  (hm:lastMarks [op,op'] [b,c]=false:=by with_unfolding_all rfl):PE X (.Compare a [op,op'] [b,c] pos) (BJ r r' ta tb tc):=by
 intro pins s σ H Q I h;refine Compare_chain (thn (ha pins s σ H _ I h) λv s1 ⟨x,H1,I1,r1,q1⟩=>chain_link (thn (hb pins s1 σ H1 _ I1 q1) λu s2 ⟨y,H2,I2,r2,q2⟩=>
  thn (ho pins s2 σ H2 x y v u _ I2 r1 r2 q2) λd s3 ⟨z,H3,I3,r3,k,e,q3⟩=>?_)) hm
 subst e;cases r3;refine cp ?_;cases k with
 |false=>exact ite_ff ⟨.bl false,H3,I3,rfl,q3⟩
 |true=>exact ite_tt (chain_last (thn (hc pins s3 σ H3 _ I3 q3) λw' s4 ⟨z',H4,I4,r4,q4⟩=>ho' pins s4 σ H4 y z' u w' Q I4 r2 r4 q4))
theorem E2{r:R2}(ho:OpR X (aW op) r)(ho':OpR X (aW op') r')(ha:PE X a ta)(hb:PE X b tb)(hc:PE X c tc)
  (hm:lastMarks [op,op'] [b,c]=false:=by with_unfolding_all rfl):PT X (.Compare a [op,op'] [b,c] pos) (EZ (BJ r r' ta tb tc)):=by
 intro pins s σ H Q I h;refine isTrue_chain (thn (ha pins s σ H _ I h) λv s1 ⟨x,H1,I1,r1,q1⟩=>test_link (thn (hb pins s1 σ H1 _ I1 q1) λu s2 ⟨y,H2,I2,r2,q2⟩=>
  thn (ho pins s2 σ H2 x y v u _ I2 r1 r2 q2) λd s3 ⟨z,H3,I3,r3,k,e,q3⟩=>?_)) hm
 subst e;cases r3;refine cp ?_;cases k with
 |false=>obtain⟨k',e',q'⟩:=q3;cases e';exact ite_ff ⟨H3,I3,q'⟩
 |true=>refine ite_tt (test_last (thn (hc pins s3 σ H3 _ I3 q3) λw' s4 ⟨z',H4,I4,r4,q4⟩=>thn (ho' pins s4 σ H4 y z' u w' _ I4 r2 r4 q4) λd' s5 ⟨z2,H5,I5,r5,k2,e2,q5⟩=>?_));subst e2;cases r5;exact cp ⟨H5,I5,q5⟩
theorem v3:(ay:Nat)<2 ^ 63:=by rw[cz];decide
theorem vals1{x:V}(r:Vals [x] us):∃u,us=[u]/\RelV x u:=by
 cases r with
 |cons r1 r2=>cases r2;exact⟨_,rfl,r1⟩
theorem vals2{x:V}(r:Vals [x,y] us):∃u w',us=[u,w']/\RelV x u/\RelV y w':=by
 cases r with
 |cons r1 r2=>
  cases r2 with
  |cons r3 r4=>cases r4;exact⟨_,_,rfl,r1,r3⟩
theorem DV(hc:X.calm=true):pD X (.builtin "max") (λxs H Q=>∃i j,xs=[.int i,.int j]/\Q (.int (if j > i then j else i)) H):=by
 intro pins s σ H xs us Q I r h;obtain⟨i,j,rfl,q⟩:=h;obtain⟨u,w',rfl,⟨t,rfl⟩,⟨t',rfl⟩⟩:=vals2 r;refine max_two_ints (I.ok.hd hc) λh' tk k=>⟨_,H,I.kept k,?_,q⟩;by_cases hj:j > i
 ·rw[ag hj,ag hj];exact⟨_,rfl⟩
 ·rw[ai hj,ai hj];exact⟨_,rfl⟩
theorem DW(hc:X.calm=true):pD X (.builtin "min") (λxs H Q=>∃i j,xs=[.int i,.int j]/\Q (.int (if j<i then j else i)) H):=by
 intro pins s σ H xs us Q I r h;obtain⟨i,j,rfl,q⟩:=h;obtain⟨u,w',rfl,⟨t,rfl⟩,⟨t',rfl⟩⟩:=vals2 r;refine min_two_ints (I.ok.hd hc) λh' tk k=>⟨_,H,I.kept k,?_,q⟩;by_cases hj:j<i
 ·rw[ag hj,ag hj];exact⟨_,rfl⟩
 ·rw[ai hj,ai hj];exact⟨_,rfl⟩
theorem DX:pD X (.type "int") (λxs H Q=>(∃i,xs=[.int i]/\Q (.int i) H)\/∃k,xs=[.bl k]/\Q (.int (if k then 1 else 0)) H):=by
 intro pins s σ H xs us Q I r h;rcases h with ⟨i,rfl,q⟩|⟨k,rfl,q⟩
 ·obtain⟨u,rfl,t,rfl⟩:=vals1 r;exact call_int_int ⟨.int i,H,I,⟨_,rfl⟩,q⟩
 ·obtain⟨u,rfl,r1⟩:=vals1 r;cases r1;exact call_int_bool ⟨.int (if k then 1 else 0),H,I.tok _,⟨_,rfl⟩,q⟩
end
structure BK(h:Heap)(x dx C:Addr)(mA:Str->Option aa):Prop where
 obj:h.get? x=some (dH C dx)
 ns:h.Ns1 dx mA
 ne:dx≠x
variable{dx:Addr}
theorem DY{h:Heap}{mA:Str->Option aa}(n:h.Ns1 dx mA):∃od,h.get? dx=some od/\∀name,gO name od=some (mA name):=by
 obtain⟨o,es,ep,ho,hd,hk,_,hm⟩:=n;refine⟨o,ho,λname=>?_⟩;have e:=hm name;unfold nsFind findBy at e;rw[<-Array.find?_toList]at e;unfold gO;rw[hd];dsimp only;split
 ·rename_i y q;rw[q]at e;exact aM some e
 ·rename_i q;rw[q]at e;have a:es.toList.any (·.refKey)=false:=by rw[List.any_eq_false];intro y hy;obtain⟨z,t,hkey⟩:=hk y (Array.mem_toList_iff.mp hy);simp[DictEntry.refKey,hkey]
  have a':¬es.toList.any (·.refKey)=true:=by rw[a];exact bc
  rw[ai a'];exact aM some e
variable{C:Addr}
theorem BK.look{h:Heap}{x:Addr}{mA:Str->Option aa}(I:BK h x dx C mA):∃od,W.InstAt h x (dH C dx) C (some od)/\∀name,gO name od=some (mA name):=
 let ⟨od,ho,hl⟩:=DY I.ns
 ⟨od,⟨I.obj,rfl,rfl,ho⟩,hl⟩
variable{kw:List (Str×aa)}
section
variable{prog:ar}{w:ao}{A:av}{E:aa->ae->Prop}{s:ae}{K:aj}{x dx C f:Addr}{mA:Str->Option aa}{name:Str}{v:aa}
theorem get_map{expr:Bool}(X:K.In s.heap)(I:BK s.heap x dx C mA)(hg:gA K C name=true)(hh:iR K C=true)
  (ha:cg K (.ref C) name=some none) (hv:mA name=some v) (hv':W.handedIn v=true) (h:Q v { s with toks:=s.toks+1 }):
  ah (model prog w) A (getAttr (.ref x) name expr) Q E s:=by
 obtain⟨od,J,hl⟩:=I.look;exact W.get_value X J (iG hg).1 (W.findObj_own hh ha rfl (by rw[hl,hv])) hv' h
theorem E3{pl:Sem Bool}{Q:aa×List aa->ae->Prop}(X:K.In s.heap)(I:BK s.heap x dx C mA)(hg:gA K C name=true)
  (hf:cg K (.ref C) name=some (some (.ref f))) (ht:gR K (.ref f)=true) (hv:mA name=none) (h:Q (.ref f,[.ref x]) s):
  ah (model prog w) A (getMethod (.ref x) name pl) Q E s:=by
 obtain⟨od,J,hl⟩:=I.look;exact W.method_fn X J (iG hg).1 (iG hg).2 hf (beq_iff_eq.mp ht) (by show (gO name od).map (·.isSome)=some false;rw[hl,hv];rfl) h
theorem HB{ns:List Str}{Q:Unit->ae->Prop}(X:K.In s.heap)(I:BK s.heap x dx C mA)
  (hs:cg K (.ref C) "__setattr__" = some (some (.builtin "object.__setattr__"))) (hp:lb K C=true) (ht:i9 K C name=some none) (hh:iR K C=true)
  (hw:iJ mA ns) (hsz:ns.length<=ay)
  (h:∀h',BK h' x dx C (λy=>if y=name then some v else mA y)->eO dx s.heap h'->Q () { s with heap:=h',toks:=s.toks+2 }):
  ah (model prog w) A (setAttr (.ref x) name v) Q E s:=by
 obtain⟨od,J,hl⟩:=I.look;refine W.set_plain X J hs (W.osa_open (s:={ s with toks:=s.toks+1 }) (r:=none) X J hp ht λb=>?_);obtain⟨cd,hc,hd'⟩:=W.any_some hh;have hx:s.heap.get? x=some ⟨.ref C,some dx,.plain,#[]⟩:=I.obj;refine au (aC (au (au (wpAny_loadPart hx (au (W.Looks.here (s:={ s with toks:=s.toks+1 }) (W.looks_clsIn X hc) ?_))))));rw[hd'];refine aC (a:=some dx) (au (aC (au ?_)));refine wpAny_nsSet1 (s:={ s with toks:=s.toks+1 }) I.ns λh' hn2 hs2=>?_;obtain⟨oD,esD,epD,hoD,hdD,hcD⟩:=hn2.count (m6 name v hw);refine au (wpAny_lookBehind hoD (by rw[hdD];exact pastItsLine_dict (bw hcD (by rw[aD];omega))) ?_);exact aC (h _ ⟨(hs2.2 _ (dJ I.ne)).trans I.obj,hn2,I.ne⟩ hs2)
theorem AJ{R:cR->ae->Prop}{vs:List aa}(X:K.In s.heap)(hm:W.makesIn K C=true)
  (hi:cg K (.ref C) "__init__" = some (some (.ref f))) (hf:W.typeIn K (.ref f)=some (.type "function"))
  (h:bS (model prog w) (A.under (.builtin "type.__call__" ⟨.ref C::vs,kw⟩)) (.call (.ref f) ⟨.ref (s.heap.objs.size+1)::vs,kw⟩) (W.InitBack (s.heap.objs.size+1) R)
   { s with heap:=(s.heap.push dc).push (dH C s.heap.objs.size) }):
  bS (model prog w) A (.call (.ref C) ⟨vs,kw⟩) R s:=by
 obtain⟨hh,g,d,t,os⟩:=s;exact W.make_core (W.makes_of X hm) (W.looks_findIn X hi) (λself=>W.bind_fn X self hf) (.inl rfl) h
end
def sG(f:Str)(v:V):List (Str×V)->List (Str×V)
 |[]=>[(f,v)]
 |(g,x)::r=>if g=f then (g,v)::r else (g,x)::sG f v r
theorem wJ(f g:Str)(v:V):∀fs:List (Str×V),(sG f v fs).lookup g=if g=f then some v else fs.lookup g
 |[]=>by
  show cA g [(f,v)]=_;by_cases h:g=f
  ·have hb:(g==f)=true:=beq_iff_eq.mpr h;simp only[cA,hb,ag h]
  ·have hb:(g==f)=false:=beq_eq_false_iff_ne.mpr h;simp only[cA,hb,ai h]
 |(k,x)::r=>by
  have ih:=wJ f g v r;rw[show sG f v ((k,x)::r)=(if k=f then (k,v)::r else (k,x)::sG f v r) from rfl];by_cases hk:k=f
  ·rw[ag hk];by_cases h:g=k
   ·have hb:(g==k)=true:=beq_iff_eq.mpr h;simp only[cA,hb,ag (h.trans hk)]
   ·have hb:(g==k)=false:=beq_eq_false_iff_ne.mpr h;simp only[cA,hb,ai (λe:g=f=>h (e.trans hk.symm))]
  ·rw[ai hk];by_cases h:g=k
   ·have hb:(g==k)=true:=beq_iff_eq.mpr h;simp only[cA,hb,ai (λe:g=f=>hk (h.symm.trans e))]
   ·have hb:(g==k)=false:=beq_eq_false_iff_ne.mpr h;simp only[cA,hb];exact ih
theorem v5(f:Str)(v:V):∀fs:List (Str×V),f∈(sG f v fs).map (·.1)/\∀g,g∈fs.map (·.1)->g∈(sG f v fs).map (·.1)
 |[]=>⟨by simp[sG],λg h=>by simp at h⟩
 |(k,x)::r=>by
  obtain⟨i1,i2⟩:=v5 f v r;rw[show sG f v ((k,x)::r)=(if k=f then (k,v)::r else (k,x)::sG f v r) from rfl];by_cases hk:k=f
  ·rw[ag hk];subst hk;exact⟨by simp,λg h=>by simpa using h⟩
  ·rw[ai hk];refine⟨?_,λg h=>?_⟩
   ·rw[aF];exact aG _ i1
   ·rw[aF]at h ⊢;rcases aO.mp h with e|e
    ·exact aO.mpr (.inl e)
    ·exact aG _ (i2 g e)
theorem wK(f:Str)(v:V):∀fs:List (Str×V),(sG f v fs).length<=fs.length+1
 |[]=>by simp[sG]
 |(k,x)::r=>by
  have ih:=wK f v r;rw[show sG f v ((k,x)::r)=(if k=f then (k,v)::r else (k,x)::sG f v r) from rfl];by_cases hk:k=f
  ·rw[ag hk,aD,aD];omega
  ·rw[ai hk,aD,aD];omega
theorem uK.some_of{v:V}{o:Option aa}(r:uK (some v) o):∃u,o=some u/\RelV v u:=by
 cases o with
 |none=>exact(show False from r).elim
 |some u=>exact⟨u,rfl,r⟩
theorem uK.none_of{o:Option aa}(r:uK none o):o=none:=by
 cases o with
 |none=>rfl
 |some u=>exact(show False from r).elim
theorem DZ{v:V}(r:RelV v u):W.handedIn u=true:=by
 cases v with
 |non=>cases (show u=Value.none from r);rfl
 |bl b=>cases (show u=Value.bool b from r);rfl
 |int i=>obtain⟨t,e⟩:=(show ∃t,u=Value.int i t from r);cases e;rfl
 |str x=>obtain⟨t,e⟩:=(show ∃t,u=Value.str x t from r);cases e;rfl
 |byt b=>obtain⟨t,e⟩:=(show ∃t,u=Value.bytes b t from r);cases e;rfl
 |flt b=>obtain⟨t,e⟩:=(show ∃t,u=Value.float b t from r);cases e;rfl
 |ref a=>cases (show u=Value.ref a from r);rfl
 |ty n=>cases (show u=Value.type n from r);rfl
section
variable{P:ar}{w:ao}{H H':Hp}{h h':Heap}{a C dx:Addr}{fs fs':List (Str×V)}
theorem sW(hok:HOk P w H h)(e:H a=some (.ins C dx fs)):∃mA,BK h a dx C mA/\(∀f,uK (fs.lookup f) (mA f))/\iJ mA (fs.map (·.1))/\fs.length<=1000/\H dx=some (.own a):=by obtain⟨d,z,ne,ob,mA,n,r,q⟩:=(show oP P w H h a (.ins C dx fs) from hok a _ e);exact⟨mA,⟨ob,n,ne⟩,r,q,z,d⟩
end
structure Cls(K:aj)(C:Addr):Prop where
 pg:gA K C Str.empty=true
 hd:iR K C=true
 po:lb K C=true
 sa:cg K (.ref C) "__setattr__" = some (some (.builtin "object.__setattr__"))
theorem Cls.get{K:aj}(c:Cls K C)(f:Str):gA K C f=true:=c.pg
def rJ(K:aj)(C:Addr)(f:Str):Prop:=cg K (.ref C) f=some none
theorem rJ.taker{K:aj}{f:Str}(n:rJ K C f):i9 K C f=some none:=by unfold i9;rw[show cg K (.ref C) f=some none from n];rfl
structure Meth(K:aj)(C:Addr)(m:Str)(f:Addr):Prop where
 at_:cg K (.ref C) m=some (some (.ref f))
 fn:gR K (.ref f)=true
 kp:cG K (.ref f)=true
section
variable{X:Cx}{pins:List (Addr×Obj)}{σ:St}{H:Hp}{s:ae}{a C dx:Addr}{fs:List (Str×V)}{f:Str}{v:V}{A:av}{E:aa->ae->Prop}
theorem BL{b:Bool}(I:Inv X pins σ H s)(e:H a=some (.ins C dx fs))(c:Cls X.K C)(n:rJ X.K C f)(l:fs.lookup f=some v)
  (h:∀u s',Inv X pins σ H s'->RelV v u->Q u s'):ah (model X.prog X.w) A (getAttr (.ref a) f b) Q E s:=by
 obtain⟨mA,O,r,_,_,_⟩:=sW I.hok e;obtain⟨u,hu,ru⟩:=uK.some_of (v:=v) (o:=mA f) (by rw[<-l];exact r f);exact get_map I.kIn O (c.get f) c.hd n hu (DZ ru) (h u _ (I.tok _) ru)
theorem xK{m:Str}{g:Addr}{pl:Sem Bool}{Q:aa×List aa->ae->Prop}(I:Inv X pins σ H s)(e:H a=some (.ins C dx fs))(c:Cls X.K C)(k:Meth X.K C m g)(l:fs.lookup m=none)
  (h:Q (.ref g,[.ref a]) s):ah (model X.prog X.w) A (getMethod (.ref a) m pl) Q E s:=by
 obtain⟨mA,O,r,_,_,_⟩:=sW I.hok e;have hn:mA m=none:=uK.none_of (by rw[<-l];exact r m);exact E3 I.kIn O (c.get m) k.at_ k.fn hn h
theorem BM{Q:Unit->ae->Prop}(I:Inv X pins σ H s)(e:H a=some (.ins C dx fs))(c:Cls X.K C)(n:rJ X.K C f)(hl:fs.length<1000)(ry:RelV y u)
  (h:∀s',Inv X pins σ (upd H a (.ins C dx (sG f y fs))) s'->Q () s'):ah (model X.prog X.w) A (setAttr (.ref a) f u) Q E s:=by
 obtain⟨mA,O,r,wi,_,ho⟩:=sW I.hok e;have hz:(fs.map (·.1)).length<=ay:=by rw[af,cz];omega
 refine HB I.kIn O c.sa c.po n.taker c.hd wi hz λh' O' sb=>h _ ?_;have hd:∃o,h'.get? dx=some o:=let ⟨o,_,_,e',_⟩:=O'.ns;⟨o,e'⟩;refine I.write (x:=a) (e:=dx) (by rw[e];exact True.intro) (.inr ho) (λb q hb z=>(sb.2 b hb).trans z) hd ?_;refine⟨by rw[nH O.ne];exact ho,?_,O.ne,O'.obj,_,O'.ns,λg=>?_,λg hg=>?_⟩
 ·have:=wK f y fs;omega
 ·show uK ((sG f y fs).lookup g) (if g=f then some u else mA g);rw[wJ];by_cases q:g=f
  ·rw[ag q,ag q];exact ry
  ·rw[ai q,ai q];exact r g
 ·by_cases q:g=f
  ·rw[q];exact(v5 f y fs).1
  ·refine(v5 f y fs).2 g (wi g λz=>hg ?_);show (if g=f then some u else mA g)=none;rw[ai q];exact z
theorem Inv.made(I:Inv X pins σ H s):Inv X pins σ (upd (upd H s.heap.objs.size (.own (s.heap.objs.size+1))) (s.heap.objs.size+1) (.ins C s.heap.objs.size []))
  { s with heap:=(s.heap.push dc).push (dH C s.heap.objs.size) }:=by
 have e1:(s.heap.push dc).get? s.heap.objs.size=some dc:=bA s.heap rfl;have e2:((s.heap.push dc).push (dH C s.heap.objs.size)).get? (s.heap.objs.size+1)=some (dH C s.heap.objs.size):=by
  have:=bA (s.heap.push dc) (o:=dH C s.heap.objs.size) rfl
  rwa [eK]at this
 have e3:(s.heap.push dc).Ns s.heap.objs.size (λ_=>none):=⟨dc,#[],_,e1,rfl,(λe he=>ak he (by simp)),λ_=>rfl⟩;have I1:=I.laid (a:=s.heap.objs.size) (o:=.own (s.heap.objs.size+1)) (h':=s.heap.push dc) (t':=s.toks) (λb u q=>aL _ q) (aA _) ⟨_,e1⟩;refine I1.laid (a:=s.heap.objs.size+1) (o:=.ins C s.heap.objs.size []) (t':=s.toks) (λb u q=>aL _ q) (kQ (eK _ _)) ?_;have ne:s.heap.objs.size≠s.heap.objs.size+1:=aT (dS _);refine⟨by rw[nH ne,nI],bW _,ne,e2,λ_=>none,(Heap.Ns1.of_empty e3).at λo q=>aL _ q,λ_=>True.intro,λy hy=>ak rfl hy⟩
theorem HC{prog:ar}{w:ao}{env:Env}{f:Str}{s:ae}(hb:dZ e f env (eval e env)=eval e env)
  (h:ah (model prog w) A (eval e env) (λo s₁=>ah (model prog w) A (getAttr o f true) Q E s₁) E s):ah (model prog w) A (eval (.Attribute e f pos) env) Q E s:=
 Attribute_any_ h (by rw[arm_eval_Attribute,hb])
end
def P3(K:aj)(ta:TE)(f:Str):TE:=λσ H Q=>ta σ H λx H1=>∃a C dx fs v,x=.ref a/\H1 a=some (.ins C dx fs)/\Cls K C/\rJ K C f/\fs.lookup f=some v/\Q v H1
def Oq(K:aj)(ta tv:TE)(f:Str):TS:=λD σ H=>tv σ H λy H1=>ta σ H1 λx H2=>∃a C dx fs,x=.ref a/\H2 a=some (.ins C dx fs)/\Cls K C/\rJ K C f/\fs.length<1000/\
 D.nx σ (upd H2 a (.ins C dx (sG f y fs)))
section
variable{X:Cx}{o e value:Expr}{f:Str}{pos pos' tpos:Pos}{ta tv:TE}
theorem K2(he:PE X e ta)(hb:dZ e f X.env (eval e X.env)=eval e X.env):PE X (.Attribute e f pos) (P3 X.K ta f):=by intro pins s σ H Q I h;refine HC hb (thn (he pins s σ H _ I h) λu s1 zz=>?_);obtain⟨x,H1,I1,rx,a,C,dx,fs,v,ex,ea,c,n,l,q⟩:=zz;subst ex;obtain rfl:u=Value.ref a:=rx;exact BL I1 ea c n l λu' s2 I2 ru=>⟨v,H1,I2,ru,q⟩
theorem K3(ha:PE X o ta)(hv:PE X value tv)(hs:bX value (some (.Attribute o f pos')) pos.line X.env=pure false):PS X (.Assign [.Attribute o f pos'] value pos) (Oq X.K ta tv f):=by intro pins s σ H D I h;refine plainObj_wpAny_Assign_Attribute (thn (hv pins s σ H _ I h) λu s1 ⟨y,H1,I1,ry,q⟩=>thn (ha pins s1 σ H1 _ I1 q) λov s2 zz=>?_) hs;obtain⟨x,H2,I2,rx,a,C,dx,fs,ex,ea,c,n,l,q2⟩:=zz;subst ex;obtain rfl:ov=Value.ref a:=rx;exact BM I2 ea c n l ry λs3 I3=>⟨σ,_,I3,q2⟩
end
section
variable{X:Cx}{pins:List (Addr×Obj)}{σ:St}{H:Hp}{s:ae}{A:av}{E:aa->ae->Prop}{Q:aa->ae->Prop}{c:aa}{b:Bool}
inductive xp(K:aj) (H:Hp):V->aa->Prop where
 |non:xp K H .non (.type "NoneType")
 |bl (x:Bool):xp K H (.bl x) (.type "bool")
 |int (i:Int):xp K H (.int i) (.type "int")
 |str (x:Str):xp K H (.str x) (.type "str")
 |flt (x:UInt64):xp K H (.flt x) (.type "float")
 |lst {a:Addr} {xs:List V} (e:H a=some (.lst xs)):xp K H (.ref a) (.type "list")
 |frz {a:Addr} {o:Obj} {xs:List V} (e:H a=some (.frz o (.lst xs))):xp K H (.ref a) (.type "list")
 |tup {a:Addr} {xs:List V} (e:H a=some (.tup xs)):xp K H (.ref a) (.type "tuple")
 |dK {a:Addr} {kvs:List (Key×V)} (e:H a=some (.dK kvs)):xp K H (.ref a) (.type "dict")
 |dT {a:Addr} {kvs:List (List Key×V)} (e:H a=some (.dT kvs)):xp K H (.ref a) (.type "dict")
 |ins {a C dx:Addr} {fs:List (Str×V)} (e:H a=some (.ins C dx fs)) (cl:Cls K C) (ha:cg K (.ref C) "__class__" = some (some (.builtin "object.__class__")))
   (hn:lg K (.builtin "object.__class__") "__get__" = some (some (.builtin "getset_descriptor.__get__"))) (htk:W.takesIn K (.builtin "object.__class__")=some true)
   (hm:W.mroIn K C (.type "object")=some true):xp K H (.ref a) (.ref C)
theorem rE{x:V}{t:aa}(I:Inv X pins σ H s)(rx:RelV x u)(ty:xp X.K H x t)(e:cj X.K t c=some b)(h:∀tk,Q (.bool b) { s with toks:=tk }):
  ah (model X.prog X.w) A (call (.builtin "isinstance") [u,c]) Q E s:=by
 cases ty with
 |non=>cases (show u=Value.none from rx);exact bY W.kitx_none I.kIn True.intro e (λz=>nomatch z) h
 |bl y=>cases (show u=Value.bool y from rx);exact bY W.kitx_bool I.kIn True.intro e (λz=>nomatch z) h
 |int i=>obtain⟨t,q⟩:=(show ∃t,u=Value.int i t from rx);cases q;exact bY W.kitx_int I.kIn True.intro e (λz=>nomatch z) h
 |str y=>obtain⟨t,q⟩:=(show ∃t,u=Value.str y t from rx);cases q;exact bY W.kitx_str I.kIn True.intro e (λz=>nomatch z) h
 |flt y=>obtain⟨t,q⟩:=(show ∃t,u=Value.float y t from rx);cases q;exact bY W.kitx_float I.kIn True.intro e (λz=>nomatch z) h
 |@lst a xs ea=>cases (show u=Value.ref a from rx);obtain⟨_,_,n,_,h1⟩:=(show oP X.prog X.w H s.heap a (.lst xs) from I.hok a _ ea);exact bY iU I.kIn ⟨_,h1,rfl⟩ e (λz=>nomatch z) h
 |@frz a ob xs ea=>cases (show u=Value.ref a from rx);obtain⟨_,_,_,n,_,h1⟩:=(show oP X.prog X.w H s.heap a (.frz ob (.lst xs)) from I.hok a _ ea);exact bY iU I.kIn ⟨_,h1,rfl⟩ e (λz=>nomatch z) h
 |@tup a xs ea=>cases (show u=Value.ref a from rx);obtain⟨_,_,_,p⟩:=(show oP X.prog X.w H s.heap a (.tup xs) from I.hok a _ ea);obtain⟨o,h1,h2,_⟩:=p;exact bY kR I.kIn ⟨o,h1,h2⟩ e (λz=>nomatch z) h
 |@dK a kvs ea=>cases (show u=Value.ref a from rx);obtain⟨_,_,vs,_,p⟩:=(show oP X.prog X.w H s.heap a (.dK kvs) from I.hok a _ ea);obtain⟨o,es,ep,h1,h2,_⟩:=p;exact bY iV I.kIn ⟨o,h1,h2.1⟩ e (λz=>nomatch z) h
 |@dT a kvs ea=>cases (show u=Value.ref a from rx);obtain⟨_,_,xs,_,o,es,ep,h1,h2,_⟩:=(show oP X.prog X.w H s.heap a (.dT kvs) from I.hok a _ ea);exact bY iV I.kIn ⟨o,h1,h2.1⟩ e (λz=>nomatch z) h
 |@ins a C dx fs ea cl ha hn htk hm=>cases (show u=Value.ref a from rx);obtain⟨mA,O,_⟩:=sW I.hok ea;obtain⟨od,J,_⟩:=O.look;exact bY (W.kitx_own (cl.get _) cl.hd ha hn htk hm) I.kIn J e (λz=>nomatch z) h
end
structure oQ(k:Nat)(A:av):Prop where
 hd:A.handled=none
 dp:A.depth+3 * k+5<recursionLimit
 un:A.units+16 * k+200<cLine
theorem oQ.mono{k:Nat}{A:av}(r:oQ k A)(h:j<=k):oQ j A:=⟨r.hd,by have:=r.dp;omega,by have:=r.un;omega⟩
theorem oQ.deeper{k:Nat}{A:av}(r:oQ (k+1) A)(env:Env):oQ k (A.deeper env):=
 ⟨r.hd,by have:=r.dp;show A.depth+1+3 * k+5<_;omega,by have:=r.un;show A.units+3+16 * k+200<_;omega⟩
theorem BN{A:av}:(A.under (.builtin "type.__call__" ⟨.ref C::us,kw⟩)).depth=A.depth+1:=by
 first|rfl|simp[iM,Code.weight,Code.isCreation,Code.isGuard,Code.isCaller,lh,iN,guardIds]
theorem BO{A:av}:(A.under (.builtin "type.__call__" ⟨.ref C::us,kw⟩)).units=A.units+1:=by
 first|rfl|simp[iM,Code.cUnits,lh,iN]
theorem oQ.make{k:Nat}{A:av}(r:oQ (k+1) A)(C:Addr)(us:List aa)(kw:List (Str×aa)):oQ k (A.under (.builtin "type.__call__" ⟨.ref C::us,kw⟩)):=
 ⟨r.hd,by have:=r.dp;rw[BN];omega,by have:=r.un;rw[BO];omega⟩
theorem oQ.depth{k:Nat}{A:av}(r:oQ k A):A.depth<recursionLimit:=by have:=r.dp;omega
theorem oQ.units{k:Nat}{A:av}(r:oQ k A):A.units+64<cLine:=by have:=r.un;omega
def zK:TA:=λ_ H Q=>Q [] H
def xM(ta:TE)(tr:TA):TA:=λσ H Q=>ta σ H λx H1=>tr σ H1 λxs H2=>Q (x::xs) H2
section
variable{X:Cx}{e:Expr}{es:List Expr}{te:TE}{t:TA}{pos:Pos}
theorem sX:PA X [] zK:=λ_ _ _ _ H Q I h=>ik ⟨[],H,I,.nil,h⟩
theorem qg(ha:PE X e te)(hr:PA X es t)(hs:aq (e::es) X.env=(false,eval e X.env)::aq es X.env:=by rfl):PA X (e::es) (xM te t):=by intro pos pins s σ H Q I h;rw[hs];show ah _ _ (spliced ((false,eval e X.env)::aX pos (aq es X.env))) _ _ s;refine f7 (thn (ha pins s σ H _ I h) λu s1 zz=>?_);obtain⟨x,H1,I1,r1,q1⟩:=zz;exact thn (hr pos pins s1 σ H1 _ I1 q1) λus s2 ⟨xs,H2,I2,r2,q2⟩=>⟨x::xs,H2,I2,.cons r1 r2,q2⟩
def P4(t:TA):TE:=λσ H Q=>t σ H λxs H1=>xs.length<=ay/\∀p,H1 p=none->Q (.ref p) (upd H1 p (.tup xs))
def Os(t:TA):TE:=λσ H Q=>t σ H λxs H1=>xs.length<=ay/\∀p,H1 p=none->Q (.ref p) (upd H1 p (.lst xs))
theorem K4{x1}(h:PA X es t):PE X (.Tuple es x1 pos) (P4 t):=by intro pins s σ H Q I hq;refine wpAny_Tuple_spliced (thn (h pos pins s σ H _ I hq) λus s1 ⟨xs,H1,I1,r,z,q⟩=>⟨by rw[<-r.length];exact z,?_⟩);have hf:H1 s1.heap.objs.size=none:=I1.hok.fresh (aA _);refine⟨.ref s1.heap.objs.size,upd H1 s1.heap.objs.size (.tup xs),I1.laid (t':=s1.toks) (λb u e=>aL _ e) (aA _) ?_,rfl,q _ hf⟩;exact⟨z,us,r,⟨_,bA _ rfl,rfl,_,rfl⟩⟩
theorem E4(h:PA X es t):PE X (.List es pos) (Os t):=by intro pins s σ H Q I hq;refine wpAny_List_spliced (thn (h pos pins s σ H _ I hq) λus s1 ⟨xs,H1,I1,r,z,q⟩=>⟨by rw[<-r.length];exact z,?_⟩);have hf:H1 s1.heap.objs.size=none:=I1.hok.fresh (aA _);refine⟨.ref s1.heap.objs.size,upd H1 s1.heap.objs.size (.lst xs),I1.laid (t':=s1.toks) (λb u e=>aL _ e) (aA _) ?_,rfl,q _ hf⟩;exact⟨z,us,0,r,bA _ rfl⟩
end
abbrev Sp:=List V->Hp->VK->XK->Prop
abbrev CXT:=List Env->Hp->ae->XK->aa->ae->Prop
structure BP(P:ar)(w:ao)(K:aj)(mg:Str->Option aa)(base:Heap)(A:av)(outer:List Env)(s:ae)(H:Hp):Prop where
 frames:A.frames=some outer
 mod:Mod K mg base
 bs:∀b o,base.get? b=some o->s.heap.get? b=some o/\H b=none
 bsz:base.objs.size<=s.heap.objs.size
 funs:s.heap.FunFrames base outer
 frf:∀b∈frs outer,H b=none
 hok:HOk P w H s.heap
 bare:cQ s.gens
def CE(outer:List Env)(P:ar)(w:ao)(H:Hp)(s:ae)(Q:VK)(u:aa)(s':ae):Prop:=
 ∃v H',s'.os=s.os/\cQ s'.gens/\Un (frs outer) [] H H' s.heap s'.heap/\HOk P w H' s'.heap/\RelV v u/\Q v H'
def CR(CX:CXT)(outer:List Env)(P:ar)(w:ao)(H:Hp)(s:ae)(Q:VK)(E:XK)(r:cR)(s':ae):Prop:=
 match r with
 |.ok (.ret u)=>CE outer P w H s Q u s'
 |.ok _=>False
 |.error e=>CX outer H s E e s'
structure qu(P:ar)(w:ao)(K:aj)(mg:Str->Option aa)(base:Heap)(CX:CXT)(k:Nat)(f:Addr)(fd:bo)(ps:List Str)(sp:Sp):Prop where
 len:∀vs H Q E,sp vs H Q E->vs.length=ps.length
 run:∀(A:av) (outer:List Env) (s:ae) (H:Hp) (args:Args) (us:List aa) (vs:List V) (Q:VK) (E:XK),oQ k A->BP P w K mg base A outer s H->eX s fd args (ps.zip us)->Vals vs us->sp vs H Q E->
  bS (model P w) A (.call (.ref f) args) (CR CX outer P w H s Q E) s
variable{mg:Str->Option aa}{base:Heap}{CX:CXT}{fd:bo}{ps:List Str}{sp:Sp}
theorem qu.imp{P:ar}{w:ao}{K:aj}{k:Nat}{f:Addr}{sp':Sp}(F:qu P w K mg base CX k f fd ps sp)
  (h:∀vs H Q E,sp' vs H Q E->sp vs H Q E):qu P w K mg base CX k f fd ps sp':=
 ⟨λvs H Q E q=>F.len vs H Q E (h _ _ _ _ q),λA outer s H args us vs Q E hr he hb hv hs=>F.run A outer s H args us vs Q E hr he hb hv (h _ _ _ _ hs)⟩
variable{outer:List Env}
theorem BP.make{P:ar}{w:ao}{K:aj}{A:av}{s:ae}{H:Hp}(e:BP P w K mg base A outer s H)(C:Addr)(us:List aa)(kw:List (Str×aa)):
  BP P w K mg base (A.under (.builtin "type.__call__" ⟨.ref C::us,kw⟩)) outer s H:=⟨by first|exact e.frames|(simpa [iM,Code.envs,iN,pushEnvs]using e.frames),e.mod,e.bs,e.bsz,e.funs,e.frf,e.hok,e.bare⟩
section
variable{X:Cx}{pins:List (Addr×Obj)}{σ:St}{H:Hp}{s s':ae}
theorem Inv.env0(I:Inv X pins σ H s):BP X.prog X.w X.K X.mg X.base X.A X.stack s H:=
 ⟨I.ok.frames,I.ok.mod,I.bs,bw I.ok.bsz I.sz,I.stack,I.stkFree,I.hok,I.bare⟩
theorem Inv.after{Q:VK}(I:Inv X pins σ H s)(h:CE X.stack X.prog X.w H s Q u s'):EP X pins σ Q u s':=by obtain⟨v,H',os,bare,un,hok,r,q⟩:=h;obtain⟨hh,g,d,t,os'⟩:=s';obtain rfl:os'=s.os:=os;exact⟨v,H',I.call (h':=hh) (g':=g) (d':=d) (t':=t) (ch:=[]) un hok bare (λb z=>ak z (by simp)),r,q⟩
end
def tY(sp:Sp)(dvs:List V)(E:XK)(t:TA):TE:=λσ H Q=>t σ H λvs H1=>sp (vs++dvs) H1 Q E
def CC(C:Addr)(sp:Sp)(dvs:List V)(E:XK)(t:TA):TE:=λσ H Q=>t σ H λvs H1=>∀x dx,H1 x=none->H1 dx=none->dx≠x->
 sp (.ref x::(vs++dvs)) (upd (upd H1 dx (.own x)) x (.ins C dx [])) (λv H2=>v=.non/\Q (.ref x) H2) E
def Binds(K:aj)(fd:bo)(ps:List Str)(ds:List aa):Prop:=
 ∀(s:ae) (us:List aa),K.In s.heap->(us++ds).length=ps.length->eX s fd ⟨us,[]⟩ (ps.zip (us++ds))
theorem Binds.all{K:aj}(h:∀us:List aa,us.length=ps.length->bindArgs fd ⟨us,[]⟩=pure (ps.zip us)):Binds K fd ps []:=λs us _ hl=>by rw[bh]at hl ⊢;exact .of_eq (h us hl)
def Passes(CX:CXT)(X:Cx)(E:XK):Prop:=∀(pins:List (Addr×Obj)) (σ:St) (H:Hp) (s:ae) (e:aa) (s':ae),Inv X pins σ H s->CX X.stack H s E e s'->X.xe e s'
section
variable{X:Cx}{CX:CXT}{k:Nat}{f C:Addr}{fd:bo}{ps:List Str}{sp:Sp}{dvs:List V}{ds:List aa}{E:XK}{x m:Str}{p pos apos:Pos}{e o:Expr}{es:List Expr}{ta:TE}{t:TA}
theorem zL{H:Hp}{s:ae}{Q:VK}{vs:List V}(F:qu X.prog X.w X.K X.mg X.base CX k f fd ps sp)(hr:oQ k X.A)(hb:Binds X.K fd ps ds)(hd:Vals dvs ds)(hx:Passes CX X E)
  (I:Inv X pins σ H s) (r:Vals vs us) (h:sp (vs++dvs) H Q E):ah (model X.prog X.w) X.A (call (.ref f) us) (EP X pins σ Q) X.xe s:=by
 have r2:Vals (vs++dvs) (us++ds):=r.append hd;have hl:(us++ds).length=ps.length:=by rw[<-r2.length];exact F.len _ _ _ _ h
 refine gB (d6 (F.run X.A X.stack s H ⟨us,[]⟩ (us++ds) (vs++dvs) Q E hr I.env0 (hb s us I.kIn hl) r2 h) λr s' hq=>?_);cases r with
 |error e=>exact hx pins σ H s e s' I hq
 |ok fl=>
  cases fl with
  |ret u=>exact I.after hq
  |next=>exact bN hq
  |brk=>exact bN hq
  |cont=>exact bN hq
theorem vw(F:qu X.prog X.w X.K X.mg X.base CX k f fd ps sp)(hr:oQ k X.A)(hg:Gl X x)(hm:X.mg x=some (.ref f))(hk:cG X.K (.ref f)=true)(hb:Binds X.K fd ps ds)(hd:Vals dvs ds)(hx:Passes CX X E)
  (ha:PA X (e::es) t) (hdb:(x==("__debug__" : Str))=false:=by decide) (he:aq (e::es) X.env=(false,eval e X.env)::aq es X.env:=by rfl) (hpl:(aX pos (aq es X.env)).any (·.1)=false:=by rfl):
  PE X (.Call (.Name x p) (e::es) [] pos) (tY sp dvs E t):=by
 intro pins s σ H Q I h;refine dq (sV I hg hm ?_ hdb);refine gu (h₀:=X.base) I.ok.mod.kin hk (thn (ha pos pins s σ H _ I h) λus s1 ⟨vs,H1,I1,r,q⟩=>⟨I1.kIn,?_⟩) he hpl;exact zL F hr hb hd hx I1 r q
theorem AK(F:qu X.prog X.w X.K X.mg X.base CX k f fd ps sp)(hr:oQ k X.A)(hg:Gl X x)(hm:X.mg x=some (.ref f))(hk:cG X.K (.ref f)=true)(hb:Binds X.K fd ps ds)(hd:Vals dvs ds)(hx:Passes CX X E)
  (hdb:(x==("__debug__" : Str))=false:=by decide):PE X (.Call (.Name x p) [] [] pos) (tY sp dvs E zK):=by
 intro pins s σ H Q I h;refine dq (sV I hg hm ?_ hdb);exact kF I.kIn hk (zL (us:=[]) F hr hb hd hx I .nil h)
structure Mk(K:aj)(C f:Addr):Prop where
 makes:W.makesIn K C=true
 init:cg K (.ref C) "__init__" = some (some (.ref f))
 fn:gR K (.ref f)=true
 kp:cG K (.ref C)=true
theorem E5{H:Hp}{s:ae}{Q:VK}{vs:List V}(M:Mk X.K C f)(F:qu X.prog X.w X.K X.mg X.base CX k f fd ps sp)(hr:oQ (k+1) X.A)(hb:Binds X.K fd ps ds)(hd:Vals dvs ds)
  (hx:Passes CX X E) (I:Inv X pins σ H s) (r:Vals vs us)
  (h:∀x dx,H x=none->H dx=none->dx≠x->sp (.ref x::(vs++dvs)) (upd (upd H dx (.own x)) x (.ins C dx [])) (λv H2=>v=.non/\Q (.ref x) H2) E):
  ah (model X.prog X.w) X.A (call (.ref C) us) (EP X pins σ Q) X.xe s:=by
 have hq:=h (s.heap.objs.size+1) s.heap.objs.size (I.hok.fresh (gz _)) (I.hok.fresh (aA _)) (aT (dS _));have I2:=Inv.made (C:=C) I;have r2:Vals (V.ref (s.heap.objs.size+1)::(vs++dvs)) (Value.ref (s.heap.objs.size+1)::(us++ds)):=.cons rfl (r.append hd);have hl:(Value.ref (s.heap.objs.size+1)::us++ds).length=ps.length:=by have e:=r2.length;rw[F.len _ _ _ _ hq]at e;exact e.symm
 refine gB (AJ (f:=f) I.kIn M.makes M.init (beq_iff_eq.mp M.fn) (d6 (F.run _ X.stack _ _ ⟨Value.ref (s.heap.objs.size+1)::us,[]⟩ (Value.ref (s.heap.objs.size+1)::(us++ds)) _ _ E (hr.make C us [])
  (I2.env0.make C us []) (hb _ (Value.ref (s.heap.objs.size+1)::us) I2.kIn hl) r2 hq) λr s' hq'=>?_))
 cases r with
 |error e=>exact hx pins σ _ _ e s' I2 hq'
 |ok fl=>
  cases fl with
  |ret u=>obtain⟨v,H',I3,rv,ev,q3⟩:=I2.after hq';subst ev;exact⟨rv,⟨V.ref (s.heap.objs.size+1),H',I3,rfl,q3⟩⟩
  |next=>exact bN hq'
  |brk=>exact bN hq'
  |cont=>exact bN hq'
theorem HD(M:Mk X.K C f)(F:qu X.prog X.w X.K X.mg X.base CX k f fd ps sp)(hr:oQ (k+1) X.A)(hg:Gl X x)(hm:X.mg x=some (.ref C))(hb:Binds X.K fd ps ds)(hd:Vals dvs ds)(hx:Passes CX X E)
  (ha:PA X (e::es) t) (hdb:(x==("__debug__" : Str))=false:=by decide) (he:aq (e::es) X.env=(false,eval e X.env)::aq es X.env:=by rfl) (hpl:(aX pos (aq es X.env)).any (·.1)=false:=by rfl):
  PE X (.Call (.Name x p) (e::es) [] pos) (CC C sp dvs E t):=by
 intro pins s σ H Q I h;refine dq (sV I hg hm ?_ hdb);refine gu (h₀:=X.base) I.ok.mod.kin M.kp (thn (ha pos pins s σ H _ I h) λus s1 ⟨vs,H1,I1,r,q⟩=>⟨I1.kIn,?_⟩) he hpl;exact E5 M F hr hb hd hx I1 r q
end
structure oX(N P:List Str)(sc:bT):Prop where
 kind:sc.kind=.function
 co:sc.isCoroutine=false
 gen:sc.isGenerator=false
 nd:N.Nodup
 pre:N.take P.length=P
 par:∀x∈P,sc.names.lookup x=some .local\/sc.names.lookup x=some .cell
 nofree:∀y∈sc.names,y.2≠.free
theorem yW{kindOf:Str->Option cP}{x:Str}:∀{binds:List (Str×aa)} {m:Str->Option aa},(∀v,(x,v)∉binds)->bindL kindOf binds m x=m x
 |[],_,_=>rfl
 |(n,v)::r,m,h=>by
  unfold bindL;rw[yW λw hw=>h w (aG _ hw)];split
  ·have:x≠n:=by rintro rfl;exact h v aE
   simp[this]
  ·rfl
theorem yX{kindOf:Str->Option cP}{x:Str}:∀{binds:List (Str×aa)} {m:Str->Option aa},(∀v,(x,v)∉binds)->bindC kindOf binds m x=m x
 |[],_,_=>rfl
 |(n,v)::r,m,h=>by
  unfold bindC;rw[yX λw hw=>h w (aG _ hw)];split
  ·rfl
  ·have:x≠n:=by rintro rfl;exact h v aE
   simp[this]
theorem yY{kindOf:Str->Option cP}{x:Str}{v:aa}:∀{P:List Str} {vs:List aa} {i:Nat} {m:Str->Option aa},P.Nodup->P[i]?=some x->vs[i]?=some v->kindOf x=some .local->
  bindL kindOf (P.zip vs) m x=some v
 |[],_,_,_,_,h,_,_=>by simp at h
 |_::_,[],_,_,_,_,h,_=>by simp at h
 |p::P,w::vs,0,m,nd,h1,h2,hk=>by simp at h1 h2;subst h1;subst h2;show bindL kindOf ((p,w)::P.zip vs) m p=_;unfold bindL;rw[yW λv hv=>(cY.mp nd).1 (gm hv).1,ag hk];simp
 |p::P,w::vs,i+1,m,nd,h1,h2,hk=>by show bindL kindOf ((p,w)::P.zip vs) m x=_;unfold bindL;exact yY (i:=i) (cY.mp nd).2 (by simpa using h1) (by simpa using h2) hk
theorem yZ{kindOf:Str->Option cP}{x:Str}{v:aa}:∀{P:List Str} {vs:List aa} {i:Nat} {m:Str->Option aa},P.Nodup->P[i]?=some x->vs[i]?=some v->kindOf x≠some .local->
  bindC kindOf (P.zip vs) m x=some v
 |[],_,_,_,_,h,_,_=>by simp at h
 |_::_,[],_,_,_,_,h,_=>by simp at h
 |p::P,w::vs,0,m,nd,h1,h2,hk=>by simp at h1 h2;subst h1;subst h2;show bindC kindOf ((p,w)::P.zip vs) m p=_;unfold bindC;rw[yX λv hv=>(cY.mp nd).1 (gm hv).1,ai hk];simp
 |p::P,w::vs,i+1,m,nd,h1,h2,hk=>by show bindC kindOf ((p,w)::P.zip vs) m x=_;unfold bindC;exact yZ (i:=i) (cY.mp nd).2 (by simpa using h1) (by simpa using h2) hk
def start(N:List Str)(vs:List V):St:=vs.map some++fK (N.length - vs.length) none
def zM(CX:CXT)(P:ar)(w:ao)(K:aj)(mg:Str->Option aa)(base:Heap)(N:List Str)(qual:Str)(scope:bT)(f:Addr)(cd:aa)(A:av)(outer:List Env)(s:ae)(H:Hp)(E:XK):Cx where
 prog:=P
 w:=w
 K:=K
 mg:=mg
 base:=base
 A:=A.deeper (envOfC qual scope s.heap.objs.size f cd)
 N:=N
 s₀:=s
 H₀:=H
 env:=envOfC qual scope s.heap.objs.size f cd
 outer:=outer
 stack:=envOfC qual scope s.heap.objs.size f cd::outer
 ex:=[]
 calm:=true
 fn:=λ_=>true
 pn:=[]
 xe:=λe s'=>ah (model P w) (A.deeper (envOfC qual scope s.heap.objs.size f cd)) (leaving (envOfC qual scope s.heap.objs.size f cd) e) (λ_ s''=>CX outer H s E e s'') (λe' s''=>CX outer H s E e' s'') s'
theorem AL{sc:bT}{n:Nat}(h:sc.names.lookup x=some .cell):∃c,(cellsFrom n sc.names []).lookup x=some c:=by have q:=j4 sc.names n [] (.inl h);exact Option.isSome_iff_exists.mp q
variable{qual:Str}{scope:bT}
theorem D1{P:ar}{w:ao}{K:aj}{f:Addr}{cd:aa}{A:av}{s s1:ae}{H:Hp}{E:XK}{vs:List V}
  (S:oX N ps scope) (hd:A.handled=none) (e0:BP P w K mg base A outer s H) (hl:vs.length=ps.length) (r:Vals vs us)
  (x:InCallC s s.heap.objs.size (bindL (envOfC qual scope s.heap.objs.size f cd).kindOf (ps.zip us) λ_=>none) (cellsFrom (s.heap.objs.size+1) scope.names []) (bindC (envOfC qual scope s.heap.objs.size f cd).kindOf (ps.zip us) λ_=>none) s1):
  Inv (zM CX P w K mg base N qual scope f cd A outer s H E) [] (start N vs) H s1:=by
 have hpl:ps.length<=N.length:=by have:=aM bM S.pre;rw[bf]at this;omega
 obtain⟨h1,tk,rfl,hk⟩:=x.done;have noA:∀b:Addr,b∉(zM CX P w K mg base N qual scope f cd A outer s H E).ex:=λb z=>ak (show b∈([]:List Addr) from z) (by simp);refine⟨⟨e0.mod,S.kind,rfl,rfl,aA _,λy z c h1 h2=>?_,λy hy=>?_,λy c _ h=>?_,λ_=>hd,Around.frames_deeper e0.frames,.inr ⟨rfl,rfl⟩,λb z=>ak z (noA b),e0.bs,e0.bsz,λb _ _=>noA b,λb z=>ak z (noA b),e0.funs,e0.frf⟩,
  rfl,e0.bare,Un.kept hk,⟨_,x.toInCall.ns,λi y v h1 h2 h3=>?_⟩,λy c h=>⟨_,x.cell y c h⟩,e0.hok.fresh (aA _),λy c h=>?_,λp hp=>ak (show p∈([]:List (Addr×Obj)) from hp) (by simp),e0.hok.kept hk,?_⟩
 ·exact name_of_addr x.apart (fz h1) (fz h2)
 ·have hy:scope.names.lookup y=some .cell\/scope.names.lookup y=some .free:=hy;rcases hy with hy|hy
  ·exact AL hy
  ·exact ak rfl (S.nofree _ (fz hy))
 ·exact gr (x.above y c (fz h))
 ·have hi:i<vs.length:=by
   unfold start at h2;by_cases hi:i<vs.length
   ·exact hi
   ·rw[cH (by simpa using hi)]at h2;rw[fj]at h2;split at h2<;>cases h2
  have ha:vs[i]?=some v:=by
   unfold start at h2;rw[ck (by simpa using hi),aZ]at h2;cases e:vs[i]? with
   |none=>rw[e]at h2;cases h2
   |some a=>rw[e]at h2;cases h2;rfl
  obtain⟨u,hu,rv⟩:=r.get ha;have hp:ps[i]?=some y:=by rw[<-S.pre,List.getElem?_take_of_lt (by omega)];exact h1
  have ndP:ps.Nodup:=by rw[<-S.pre];exact S.nd.sublist (fD _ _)
  refine⟨u,rv,?_⟩;rcases S.par y (bz hp)with k|k
  ·exact .inl ⟨k,yY ndP hp hu k⟩
  ·obtain⟨c,e⟩:=AL (n:=s.heap.objs.size+1) k;refine .inr ⟨.inl k,c,e,?_⟩;have q:=x.cell y c e;rw[yZ ndP hp hu (by show scope.names.lookup y≠_;rw[k];decide)]at q;exact q
 ·exact e0.hok.fresh (gr (x.above y c (fz h)))
 ·unfold start;show _=N.length;rw[aw,af,bO];omega
theorem AM{P:ar}{w:ao}{K:aj}{k:Nat}{f:Addr}{name:Str}{params:Arguments}{dV kV doc pm cdv ct oc:aa}{an od:Option Addr}
  {osl:Array (Option aa)} (lk:K.lookup f=some ⟨oc,od,.func (dh name qual params body scope dV kV doc pm an cdv ct),osl⟩) (hcd:eW K cdv qual=true) (S:oX N ps scope)
  (len:∀vs H Q E,sp vs H Q E->vs.length=ps.length)
  (hbody:∀(A:av) (outer:List Env) (s:ae) (H:Hp) (vs:List V) (Q:VK) (E:XK),oQ k (A.deeper (envOfC qual scope s.heap.objs.size f cdv))->sp vs H Q E->
   ∃t,PSs (zM CX P w K mg base N qual scope f cdv A outer s H E) body t/\t { nx:=λ_ H'=>Q .non H',rt:=Q } (start N vs) H):
  qu P w K mg base CX (k+1) f (dh name qual params body scope dV kV doc pm an cdv ct) ps sp:=by
 refine⟨len,λA outer s H args us vs Q E hr e0 hb r hsp=>?_⟩;have hl:=len _ _ _ _ hsp;have KX:K.In s.heap:=e0.mod.kin.keeps λb o e=>(e0.bs b o e).1;have lim:s.heap.NoLimit:=e0.mod.nolimit.keeps λb o e=>(e0.bs b o e).1;have hkind:∀y∈ps.zip us,scope.names.lookup y.1=some .local\/(scope.names.lookup y.1=some .cell/\((cellsFrom (s.heap.objs.size+1) scope.names []).lookup y.1).isSome=true):=λ⟨n,v⟩ hy=>by
  rcases S.par n (gm hy).1 with q|q
  ·exact .inl q
  ·exact .inr ⟨q,j4 _ _ _ (.inl q)⟩
 refine codeAny_call_function hr.depth (KX _ _ lk) rfl S.co S.gen rfl (W.codeRec_of KX hcd) (hb _ _ _ _ ?_);refine wpAny_newFunctionEnv_cells S.kind hkind λenv he s1 x=>?_;subst he;refine⟨lim.keeps x.toInCall.keep,codeAny_func ?_⟩;obtain⟨t,ht,hq⟩:=hbody A outer s H vs Q E (hr.deeper _) hsp;have I:Inv (zM CX P w K mg base N qual scope f cdv A outer s H E) [] (start N vs) H s1:=D1 S hr.hd e0 hl r x;refine bx (ht [] s1 (start N vs) H _ I hq) (λfl s' hs=>?_) λe s' hs=>hs;have fin:∀{σ':St} {H':Hp} {v:V} {u:aa},Inv (zM CX P w K mg base N qual scope f cdv A outer s H E) [] σ' H' s'->RelV v u->Q v H'->CE outer P w H s Q u s':=
  λ{σ' H' v u} J rv q=>⟨v,H',J.os,J.bare,J.base,J.hok,rv,q⟩
 cases fl with
 |ret u=>obtain⟨v,σ',H',J,rv,q⟩:=hs;exact fin J rv q
 |next=>obtain⟨σ',H',J,q⟩:=hs;exact fin (v:=V.non) (u:=Value.none) J rfl q
 |brk=>obtain⟨_,_,_,q⟩:=hs;exact bN q
 |cont=>obtain⟨_,_,_,q⟩:=hs;exact bN q
section
variable{X:Cx}{x:Str}{p pos:Pos}{e:Expr}{es:List Expr}{t:TA}{id T:String}{r:List V->Hp->VK->Prop}
def tCB(r:List V->Hp->VK->Prop)(t:TA):TE:=λσ H Q=>t σ H λvs H1=>r vs H1 Q
theorem tZ(hc:pD X (.builtin id) r)(hg:Gl X x)(hm:X.mg x=none)(hv:cO x=some (.builtin id))(ha:PA X (e::es) t)(hn:x≠"__name__" := by decide)(hdb:(x==("__debug__" : Str))=false:=by decide)
  (he:aq (e::es) X.env=(false,eval e X.env)::aq es X.env:=by rfl) (hpl:(aX pos (aq es X.env)).any (·.1)=false:=by rfl):PE X (.Call (.Name x p) (e::es) [] pos) (tCB r t):=by
 intro pins s σ H Q I h;refine dq (uZ I hg hm hv ?_ hn hdb);exact callWith_builtin1 (thn (ha pos pins s σ H _ I h) λus s1 ⟨vs,H1,I1,r1,q1⟩=>hc pins s1 σ H1 vs us Q I1 r1 q1) he hpl
theorem D2(hc:pD X (.type T) r)(hg:Gl X x)(hm:X.mg x=none)(hv:cO x=some (.type T))(ha:PA X (e::es) t)(hn:x≠"__name__" := by decide)(hdb:(x==("__debug__" : Str))=false:=by decide)
  (he:aq (e::es) X.env=(false,eval e X.env)::aq es X.env:=by rfl) (hpl:(aX pos (aq es X.env)).any (·.1)=false:=by rfl):PE X (.Call (.Name x p) (e::es) [] pos) (tCB r t):=by
 intro pins s σ H Q I h;refine dq (uZ I hg hm hv ?_ hn hdb);exact callWith_type1 (thn (ha pos pins s σ H _ I h) λus s1 ⟨vs,H1,I1,r1,q1⟩=>hc pins s1 σ H1 vs us Q I1 r1 q1) he hpl
end
end L2
namespace HT
open PySem PyProof.Rows
section
variable{prog:ar}{w:ao}{A:av}{E:aa->ae->Prop}{s:ae}
theorem HE{t b:Addr}{vs ws:List aa}{Q:aa->ae->Prop}(ht:IsTup s.heap t vs.toArray)(hb:IsTup s.heap b ws.toArray)(hv:vs≠[])
  (h1:ws=[]->Q (.ref t) s) (h2:ws≠[]->Q (.ref s.heap.objs.size) { s with heap:=s.heap.push { cls:=.type "tuple", data:=.seq (vs++ws).toArray } })
  (hsz:vs.length+ws.length<=ay):ah (model prog w) A (cF .Add (.ref t) (.ref b)) Q E s:=by
 obtain⟨⟨cls,dd,data,sl⟩,ho,hc,n,hd⟩:=id ht;obtain⟨⟨cls2,dd2,data2,sl2⟩,ho2,hc2,n2,hd2⟩:=id hb;simp only at hc hd hc2 hd2;subst hc hd hc2 hd2;have e:vs.toArray++ws.toArray=(vs++ws).toArray:=by simp
 by_cases hw:ws=[]
 ·exact concat_meets ⟨_,ho,rfl⟩ ⟨_,ho2,rfl⟩ j5 kG j6 jT (jK _ _)
   (tuple_addW1 t b vs.toArray ws.toArray n n2 dd dd2 sl sl2 (by simpa using hv) (by simp[hw])) ⟨ho,ho2,h1 hw⟩
 ·refine concat_meets ⟨_,ho,rfl⟩ ⟨_,ho2,rfl⟩ j5 kG j6 jT (jK _ _)
   (tuple_addW2 t b vs.toArray ws.toArray n n2 dd dd2 sl sl2 (by simpa using hv) (by simpa using hw) (by rw[aS,aS];exact hsz)) ⟨ho,ho2,?_⟩
  rw[e];exact h2 hw
def sIx(n d:Nat):Option Int->Nat
 |none=>d
 |some v=>if v<0 then (v+(n:Int)).toNat else min v.toNat n
theorem AN(n d:Nat):sIx n d none=d:=rfl
theorem CD(n d k:Nat):sIx n d (some (k:Int))=min k n:=by show (if (k:Int)<0 then ((k:Int)+(n:Int)).toNat else min (k:Int).toNat n)=min k n;rw[ai (by omega),il]
end
end HT
namespace L2
open PySem PySem.Spec PyProof.Rows
abbrev TO:=St->Hp->(Option Int->Hp->Prop)->Prop
def PO(X:Cx)(e:Option Expr)(t:TO):Prop:=
 ∀(pins:List (Addr×Obj)) (s:ae) (σ:St) (H:Hp) (Q:Option Int->Hp->Prop),Inv X pins σ H s->t σ H Q->
  ah (model X.prog X.w) X.A (evalPart e X.env) (λu s'=>∃o H',Inv X pins σ H' s'/\IsPart u o/\Q o H') X.xe s
def HF:TO:=λ_ H Q=>Q none H
def Ot(t:TE):TO:=λσ H Q=>t σ H λx H1=>∃i,x=.int i/\Q (some i) H1
section
variable{X:Cx}{e:Expr}{te:TE}{lo hi:Option Expr}{tl th:TO}{pos p2:Pos}
theorem HG:PO X none HF:=by intro pins s σ H Q I h;rw[kH];exact aC ⟨none,H,I,.none,h⟩
theorem HH(h:PE X e te):PO X (some e) (Ot te):=by intro pins s σ H Q I hw;rw[evalPart_some];refine thn (h pins s σ H _ I hw) λu s1 zz=>?_;obtain⟨x,H1,I1,r1,q1⟩:=zz;obtain⟨i,rfl,q⟩:=q1;obtain⟨t,rfl⟩:=r1;exact⟨some i,H1,I1,.int i t,q⟩
def SlR(X:Cx)(r:V->Option Int->Option Int->Hp->VK->Prop):Prop:=
 ∀(pins:List (Addr×Obj)) (s:ae) (σ:St) (H:Hp) (x:V) (v vl vu:aa) (lo hi:Option Int) (sl:Addr) (Q:VK),Inv X pins σ H s->RelV x v->s.heap.IsSliceOf sl vl vu .none->IsPart vl lo->IsPart vu hi->r x lo hi H Q->
  ∃T id,typeLookup (.type T) "__getitem__" = pure (some (.builtin id))/\s.TypeIs v T/\ah (model X.prog X.w) X.A (getItem v (.ref sl)) (EP X pins σ Q) X.xe s
def tSl(r:V->Option Int->Option Int->Hp->VK->Prop)(te:TE)(tl th:TO):TE:=λσ H Q=>te σ H λx H1=>tl σ H1 λl H2=>th σ H2 λu H3=>r x l u H3 Q
theorem E6{r:V->Option Int->Option Int->Hp->VK->Prop}(hr:SlR X r)(he:PE X e te)(hl:PO X lo tl)(hu:PO X hi th):PE X (.Subscript e (.Slice lo hi none p2) pos) (tSl r te tl th):=by intro pins s σ H Q I h;refine i4 (thn (he pins s σ H _ I h) λv s1 zz=>?_);obtain⟨x,H1,I1,r1,q1⟩:=zz;refine wpAny_Slice (thn (hl pins s1 σ H1 _ I1 q1) λvl s2 ⟨l,H2,I2,pl,q2⟩=>thn (hu pins s2 σ H2 _ I2 q2) λvu s3 zz=>?_);obtain⟨u,H3,I3,pu,q3⟩:=zz;rw[kH];refine aC ?_;have I4:Inv X pins σ H3 { s3 with heap:=s3.heap.push { cls:=.type "slice", data:=.fields #[vl,vu,.none] } }:=I3.kept (t':=s3.toks) λb ob q=>aL _ q;obtain⟨T,id,hT,ht,hg⟩:=hr pins { s3 with heap:=s3.heap.push { cls:=.type "slice", data:=.fields #[vl,vu,.none] } } σ H3 x v vl vu l u s3.heap.objs.size Q I4 r1 (mZ ..) pl pu q3;show ah (model X.prog X.w) X.A (subscriptTail e (.Slice lo hi none p2) v (.ref s3.heap.objs.size)) (EP X pins σ Q) X.xe { s3 with heap:=s3.heap.push { cls:=.type "slice", data:=.fields #[vl,vu,.none] } };exact tail_any (ops:=[.ref s3.heap.objs.size,v]) ht hT hg (by with_unfolding_all rfl)
def D3(xs:List V)(lo hi:Option Int):List V:=(xs.drop (HT.sIx xs.length 0 lo)).take (HT.sIx xs.length xs.length hi - HT.sIx xs.length 0 lo)
theorem AO(xs:List V)(lo hi:Option Int):(D3 xs lo hi).length<=xs.length:=by unfold D3;rw[bf,cu];omega
def Ou(K:aj):R2:=λx y H Q=>∃a b xs ys,x=.ref a/\y=.ref b/\SqT K H a xs/\SqT K H b ys/\xs≠[]/\xs.length+ys.length<=ay/\
 (ys=[]->Q (.ref a) H)/\(ys≠[]->∀p,H p=none->Q (.ref p) (upd H p (.tup (xs++ys))))
theorem Vals.nil_iff{xs:List V}{us:List aa}(r:Vals xs us):us=[] ↔ xs=[]:=by
 cases r with
 |nil=>simp
 |cons _ _=>simp
theorem HI:OpR X (cF .Add) (Ou X.K):=by intro pins s σ H x y v u Q I rx ry h;obtain⟨a,b,xs,ys,rfl,rfl,ha,hb,hx,hz,q1,q2⟩:=h;cases rx;cases ry;obtain⟨its,r1,p1,_⟩:=I.tuple ha;obtain⟨its2,r2,p2,_⟩:=I.tuple hb;refine HT.HE p1 p2 (λz=>hx (r1.nil_iff.mp z)) (λz=>⟨.ref a,H,I,rfl,q1 (r2.nil_iff.mp z)⟩) (λz=>?_) (by rw[<-r1.length,<- r2.length];exact hz);refine⟨.ref s.heap.objs.size,_,I.laid (t':=s.toks) (o:=.tup (xs++ys)) (λb ob q=>aL _ q) (aA _) ?_,rfl,q2 (λw=>z (r2.nil_iff.mpr w)) _ (I.hok.fresh (aA _))⟩;exact⟨by rw[aw];exact hz,_,r1.append r2,IsTup.new _ _⟩
end
def ixN(n:Nat)(i:Int):Option Nat:=if 0<=i then (if i<n then some i.toNat else none)else if -(n:Int)<=i then some (i+n).toNat else none
def atI{α:Type}(xs:List α)(i:Int):Option α:=(ixN xs.length i).bind λj=>xs[j]?
variable{j:Nat}
theorem CG{n:Nat}{i:Int}(h:ixN n i=some j):seqIndex? i n=some j/\j<n/\-(n:Int)<=i/\i<n:=by
 unfold ixN at h;by_cases h0:0<=i
 ·rw[ag h0]at h;by_cases h1:i<n
  ·rw[ag h1]at h;have e:i.toNat=j:=bQ h;exact⟨by rw[iW h0 h1,e],by omega,by omega,h1⟩
  ·rw[ai h1]at h;cases h
 ·rw[ai h0]at h;by_cases h1:-(n:Int)<=i
  ·rw[ag h1]at h;have e:(i+n).toNat=j:=bQ h;exact⟨by rw[iO (by omega) h1,e],by omega,h1,by omega⟩
  ·rw[ai h1]at h;cases h
theorem zN{α:Type}{xs:List α}{i:Int}{v:α}(h:atI xs i=some v):∃j,seqIndex? i xs.length=some j/\xs[j]?=some v/\j<xs.length/\-(xs.length:Int)<=i/\i<xs.length:=by
 unfold atI at h;cases e:ixN xs.length i with
 |none=>rw[e]at h;cases h
 |some j=>rw[e]at h;obtain⟨h1,h2,h3,h4⟩:=CG e;exact⟨j,h1,h,h2,h3,h4⟩
theorem sY{α:Type}{xs:List α}{v:α}(h:xs[j]?=some v):atI xs (j:Int)=some v:=by
 have hj:j<xs.length:=(bj.mp h).1;have e:ixN xs.length (j:Int)=some j:=by unfold ixN;rw[ag (by omega),ag (by omega)];simp
 unfold atI;rw[e];exact h
def CH(b:Expr):Prop:=∀o i,subscripted b false o i=operate [o,i] (getItem o i)
def IxR(X:Cx)(r:R2):Prop:=
 ∀(value slice:Expr) (pins:List (Addr×Obj)) (s:ae) (σ:St) (H:Hp) (x y:V) (v u:aa) (Q:VK),Inv X pins σ H s->RelV x v->RelV y u->r x y H Q->
  subscripted slice false v u=operate [v,u] (getItem v u)->ah (model X.prog X.w) X.A (subscriptTail value slice v u) (EP X pins σ Q) X.xe s
def MtR(X:Cx)(id:String)(r:V->List V->Hp->VK->Prop):Prop:=
 ∀(pins:List (Addr×Obj)) (s:ae) (σ:St) (H:Hp) (x:V) (xs:List V) (v:aa) (us:List aa) (Q:VK),Inv X pins σ H s->RelV x v->Vals xs us->r x xs H Q->
  ah (model X.prog X.w) X.A (call (.builtin id) (v::us)) (EP X pins σ Q) X.xe s
variable{pins:List (Addr×Obj)}{σ:St}{its its':List aa}{y:V}{u:aa}{T:String}
section
variable{X:Cx}{a b:Expr}{ta tb:TE}{pos:Pos}
theorem IxR.or{r r':R2}(h:IxR X r)(h':IxR X r'):IxR X (λx y H Q=>r x y H Q\/r' x y H Q):=by
 intro value slice pins s σ H x y v u Q I rx ry q hs;rcases q with q|q
 ·exact h value slice pins s σ H x y v u Q I rx ry q hs
 ·exact h' value slice pins s σ H x y v u Q I rx ry q hs
theorem JX{r:R2}(hr:IxR X r)(ha:PE X a ta)(hb:PE X b tb)(hs:CH b):PE X (.Subscript a b pos) (tOp r ta tb):=by intro pins s σ H Q I h;exact i4 (KQ ha hb I h λv u s2 x y H2 I2 rx ry q=>hr a b pins s2 σ H2 x y v u Q I2 rx ry q (hs _ _))
def HJ(K:aj):R2:=λx y H Q=>∃p xs i v,x=.ref p/\y=.int i/\SqL K H p xs/\atI xs i=some v/\Q v H
def Ov(K:aj):R2:=λx y H Q=>∃p xs i v,x=.ref p/\y=.int i/\SqT K H p xs/\atI xs i=some v/\Q v H
def Ow:R2:=λx y H Q=>∃z i c,x=.str z/\y=.int i/\z.length<=ay/\atI z.cps.toList i=some c/\Q (.str ⟨#[c]⟩) H
theorem CJ:IxR X (HJ X.K):=by
 intro value slice pins s σ H x y v u Q I rx ry h hs;obtain⟨p,xs,i,z,rfl,rfl,hq,he,q⟩:=h;cases rx;obtain⟨t,rfl⟩:=ry;obtain⟨its,r,pl,hz⟩:=I.list hq;obtain⟨j,h1,h2,h3,h4,h5⟩:=zN he;obtain⟨w,ew,rw'⟩:=r.get h2;have hl:=r.length;have hn:=v3;have fin:EP X pins σ Q w s:=⟨z,H,I,rw',q⟩;by_cases h0:0<=i
 ·have hj:i.toNat=j:=by rw[iW h0 h5]at h1;exact bQ h1
  exact item_listR pl.isList h0 (by omega) (by rw[hj];simpa using ew) fin hs
 ·have hj:(i+(its.toArray.size:Int)).toNat=j:=by rw[iO (by omega) h4]at h1;rw[aS,<- hl];exact bQ h1
  exact ji (x:=w) pl.isList.typeIs jU.lookup
   (wpAny_getItem_list_neg (Q:=λr s'=>r=w/\EP X pins σ Q r s') pl.isList (by omega) (by rw[aS]<;>omega) (by omega) (by rw[hj];simpa using ew) ⟨rfl,fin⟩) hs
theorem K5:IxR X (Ov X.K):=by
 intro value slice pins s σ H x y v u Q I rx ry h hs;obtain⟨p,xs,i,z,rfl,rfl,hq,he,q⟩:=h;cases rx;obtain⟨t,rfl⟩:=ry;obtain⟨its,r,pl,hz⟩:=I.tuple hq;obtain⟨j,h1,h2,h3,h4,h5⟩:=zN he;obtain⟨w,ew,rw'⟩:=r.get h2;have hl:=r.length;have hn:=v3;have fin:EP X pins σ Q w s:=⟨z,H,I,rw',q⟩;exact ji (x:=w) pl.typeIs slot_tuple_getitem.lookup
  (getItem_tuple (j:=j) (Q:=λr s'=>r=w/\EP X pins σ Q r s') pl (by omega) (by omega) (by rw[aS,<- hl];exact h1) (by simpa using ew) ⟨rfl,fin⟩) hs
theorem K6:IxR X Ow:=by
 intro value slice pins s σ H x y v u Q I rx ry h hs;obtain⟨z,i,c,rfl,rfl,hz,he,q⟩:=h;obtain⟨t,rfl⟩:=rx;obtain⟨t',rfl⟩:=ry;obtain⟨j,h1,h2,h3,h4,h5⟩:=zN he;have hl:z.cps.toList.length=z.length:=by simp[Str.length]
 rw[hl]at h1 h4 h5;have hn:=v3;exact tail_any (typeIs_str s z t) slot_str_getitem.lookup (getItem_str (c:=c) (by
  have e1:decide (i < -(2 ^ 63:Int))=false:=aQ (by omega);have e2:decide (i >= 2 ^ 63)=false:=aQ (by omega);rw[e1,e2,Bool.or_false]) (by rw[h1];simpa using h2) ⟨.str ⟨#[c]⟩,H,I.tok _,⟨_,rfl⟩,q⟩) hs
def rIx(K:aj):R2:=λx y H Q=>HJ K x y H Q\/Ov K x y H Q\/Ow x y H Q
theorem K7:IxR X (rIx X.K):=CJ.or (K5.or K6)
theorem BQ(its:List aa)(n j:Nat)(u:aa):eS (·.setIfInBounds j u) { cls:=.type "list", data:=.seq its.toArray n }={ cls:=.type "list", data:=.seq (its.set j u).toArray n }:=by simp[eS]
theorem Inv.lst{pins:List (Addr×Obj)}{σ:St}{H:Hp}{s:ae}{p:Addr}{xs:List V}(I:Inv X pins σ H s)(h:H p=some (.lst xs)):
  ∃(its:List aa) (n:Nat),Vals xs its/\s.heap.get? p=some { cls:=.type "list", data:=.seq its.toArray n }/\xs.length<=ay:=by
 obtain⟨z,its,n,r,e⟩:=I.hok p _ h;exact⟨its,n,r,e,z⟩
theorem Inv.lstUpd{H:Hp}{s:ae}{p:Addr}{xs ys:List V}{n n':Nat}{f:Obj->Obj}(I:Inv X pins σ H s)(h:H p=some (.lst xs))
  (ho:s.heap.get? p=some { cls:=.type "list", data:=.seq its.toArray n }) (hf:f { cls:=.type "list", data:=.seq its.toArray n }={ cls:=.type "list", data:=.seq its'.toArray n' }) (r:Vals ys its') (hz:ys.length<=ay) (t:Nat):
  Inv X pins σ (upd H p (.lst ys)) { s with heap:=s.heap.update p f,toks:=t }:=by
 have e:(s.heap.update p f).get? p=some { cls:=.type "list", data:=.seq its'.toArray n' }:=by rw[jt f ho (by rw[hf]<;>rfl),hf]
 refine I.write (x:=p) (e:=p) (by rw[h];trivial) (.inl rfl) (λb u hb q=>(jk _ _ (dJ hb)).trans q) ⟨_,e⟩ ?_;exact⟨hz,its',n',r,e⟩
def E7:V->V->V->Hp->(Hp->Prop)->Prop:=λo i v H Q=>∃p xs k j,o=.ref p/\i=.int k/\H p=some (.lst xs)/\ixN xs.length k=some j/\Q (upd H p (.lst (xs.set j v)))
theorem set_list:Od X E7:=by
 intro pins s σ H o i v ov iv u Q I ro ri rv h;obtain⟨p,xs,k,j,rfl,rfl,hp,hj,q⟩:=h;cases ro;obtain⟨t,rfl⟩:=ri;obtain⟨its,n,r,ho,hz⟩:=I.lst hp;obtain⟨h1,h2,h3,h4⟩:=CG hj;have hl:=r.length;have hn:=v3;have I':Inv X pins σ (upd H p (.lst (xs.set j v))) { s with heap:=s.heap.update p (eS (·.setIfInBounds j u)) }:=
  I.lstUpd hp ho (BQ its n j u) (r.set rv j) (by rw[cZ];exact hz) s.toks
 by_cases h0:0<=k
 ·have hk:k.toNat=j:=by rw[iW h0 h4]at h1;exact bQ h1
  exact W.ki_setAt ho h0 (by omega) (by rw[aS,<- hl];exact h4) (by rw[hk];exact⟨_,I',q⟩)
 ·have hk:(k+(its.toArray.size:Int)).toNat=j:=by rw[iO (by omega) h3]at h1;rw[aS,<- hl];exact bQ h1
  exact W.ki_setBack ho (by omega) (by rw[aS,<- hl];exact h3) (by omega) (by rw[hk];exact⟨_,I',q⟩)
theorem zO(lo hi:Option Int)(n:Nat):(sliceBounds lo hi none n).1=((HT.sIx n 0 lo:Nat):Int)/\(sliceBounds lo hi none n).2.1=((HT.sIx n n hi:Nat):Int)/\(sliceBounds lo hi none n).2.2=1:=by
 refine⟨?_,?_,rfl⟩
 ·cases lo with
  |none=>simp[sliceBounds,HT.sIx]
  |some i=>
   simp only[sliceBounds,HT.sIx,gh,show (1:Int) > 0 by decide,if_true];by_cases h:i<0
   ·simp only[h,if_true]<;>omega
   ·simp only[h,if_false]<;>omega
 ·cases hi with
  |none=>simp[sliceBounds,HT.sIx]
  |some i=>
   simp only[sliceBounds,HT.sIx,gh,show (1:Int) > 0 by decide,if_true];by_cases h:i<0
   ·simp only[h,if_true]<;>omega
   ·simp only[h,if_false]<;>omega
theorem yN(its:List aa)(lo hi:Option Int):slicePick its.toArray lo hi none=((its.drop (HT.sIx its.length 0 lo)).take (HT.sIx its.length its.length hi - HT.sIx its.length 0 lo)).toArray:=by obtain⟨h1,h2,h3⟩:=zO lo hi its.toArray.size;unfold slicePick;rw[h1,h2,h3];simp only[sliceRange_one,pick_run,aS]<;>rfl
def HK(K:aj):V->Option Int->Option Int->Hp->VK->Prop:=λx lo hi H Q=>∃a xs,x=.ref a/\SqL K H a xs/\∀p,H p=none->Q (.ref p) (upd H p (.lst (D3 xs lo hi)))
theorem HL:SlR X (HK X.K):=by intro pins s σ H x v vl vu lo hi sl Q I rx hs pl pu h;obtain⟨a,xs,rfl,hx,q⟩:=h;cases rx;obtain⟨its,r,ht,hz⟩:=I.list hx;have hlen:=r.length;refine⟨"list", _,jU.lookup,ht.isList.typeIs,?_⟩;refine wpAny_getItem_list_slice ht.isList hs pl pu .none (by simp) ?_ (by rw[aS]<;>omega);rw[yN,<- hlen];refine⟨.ref s.heap.objs.size,_,I.laid (t':=s.toks) (o:=.lst (D3 xs lo hi)) (λb ob q=>aL _ q) (aA _) ?_,rfl,q _ (I.hok.fresh (aA _))⟩;exact⟨bw (AO xs lo hi) hz,_,0,(r.drop (HT.sIx xs.length 0 lo)).take (HT.sIx xs.length xs.length hi - HT.sIx xs.length 0 lo),bA _ rfl⟩
def uP:V->Bool
 |.non=>true
 |.bl _=>true
 |.int _=>true
 |.str _=>true
 |_=>false
def eqV:V->V->Bool
 |.non,.non=>true
 |.bl a,.bl b=>a==b
 |.bl a,.int b=>(if a then 1 else 0)==b
 |.int a,.bl b=>a==(if b then 1 else 0)
 |.int a,.int b=>a==b
 |.str a,.str b=>a==b
 |_,_=>false
theorem xN{A:av}{s:ae}{x:V}{v:aa}(ry:RelV y u)(rx:RelV x v)(fy:uP y=true)(fx:uP x=true):gE A s u v (eqV y x):=by
 cases y with
 |non=>
  cases ry;cases x with
  |non=>cases rx;exact iz _
  |bl b=>cases rx;exact mx b
  |int b=>obtain⟨t,rfl⟩:=rx;exact mK b t
  |str b=>obtain⟨t,rfl⟩:=rx;exact mL b t
  |_=>exact ak (show false=true from fx) bc
 |bl a=>
  cases ry;cases x with
  |non=>cases rx;exact my a
  |bl b=>cases rx;exact mB a b
  |int b=>obtain⟨t,rfl⟩:=rx;exact mM a b t
  |str b=>obtain⟨t,rfl⟩:=rx;exact mP a b t
  |_=>exact ak (show false=true from fx) bc
 |int a=>
  obtain⟨t',rfl⟩:=ry;cases x with
  |non=>cases rx;exact mQ a t'
  |bl b=>cases rx;exact mR a t' b
  |int b=>obtain⟨t,rfl⟩:=rx;exact m3 a t' b t
  |str b=>obtain⟨t,rfl⟩:=rx;exact jI a t' b t
  |_=>exact ak (show false=true from fx) bc
 |str a=>
  obtain⟨t',rfl⟩:=ry;cases x with
  |non=>cases rx;exact mS a t'
  |bl b=>cases rx;exact mT a t' b
  |int b=>obtain⟨t,rfl⟩:=rx;exact jJ a t' b t
  |str b=>obtain⟨t,rfl⟩:=rx;exact m4 a t' b t
  |_=>exact ak (show false=true from fx) bc
 |_=>exact ak (show false=true from fy) bc
def eqU(x:V)(u:aa):Bool:=match u with
 |.none=>eqV .non x
 |.bool b=>eqV (.bl b) x
 |.int i _=>eqV (.int i) x
 |.str z _=>eqV (.str z) x
 |_=>false
theorem E8{x:V}(r:RelV y u)(f:uP y=true):eqU x u=eqV y x:=by
 cases y with
 |non=>cases r;rfl
 |bl b=>cases r;rfl
 |int i=>obtain⟨t,rfl⟩:=r;rfl
 |str z=>obtain⟨t,rfl⟩:=r;rfl
 |_=>exact ak (show false=true from f) bc
theorem vx{x:V}:∀{xs:List V} {us:List aa},Vals xs us->xs.all uP=true->us.any (eqU x)=xs.any λy=>eqV y x
 |_,_,.nil,_=>rfl
 |y::xs,u::us,.cons r t,f=>by rw[c8,aB]at f;rw[d5,d5,E8 r f.1,vx t f.2]
theorem ua{A:av}{s:ae}{x:V}{v:aa}(rx:RelV x v)(fx:uP x=true):∀{xs:List V} {us:List aa},Vals xs us->xs.all uP=true->∀u∈us,gE A s u v (eqU x u)
 |_,_,.nil,_=>λu hu=>by cases hu
 |y::xs,u::us,.cons r t,f=>λu' hu=>by
  rw[c8,aB]at f;rcases aO.mp hu with rfl|hu
  ·rw[E8 r f.1];exact xN r rx f.1 fx
  ·exact ua rx fx t f.2 u' hu
def inV(x:V)(xs:List V):Bool:=xs.any λy=>eqV y x
def rIn(K:aj)(neg:Bool):R2:=λx y H Q=>∃p xs,y=.ref p/\(SqL K H p xs\/SqT K H p xs)/\uP x=true/\xs.all uP=true/\Q (.bl (if neg then !inV x xs else inV x xs)) H
theorem D4:OpR X (aW .In) (rIn X.K false):=by
 intro pins s σ H x y v u Q I rx ry h;obtain⟨p,xs,rfl,hq,fx,fs,q⟩:=h;cases ry;rcases hq with hq|hq
 ·obtain⟨its,r,pl,hz⟩:=I.list hq;refine SeqAt.in_listAt (eqU x) pl.isList (λw hw=>ua rx fx r fs w (by simpa using hw)) ⟨.bl _,H,I,rfl,?_⟩;rw[show its.toArray.any (eqU x)=its.any (eqU x) by simp,vx r fs];exact q
 ·obtain⟨its,r,pl,hz⟩:=I.tuple hq;refine SeqAt.in_tupleAt (eqU x) pl (λw hw=>ua rx fx r fs w (by simpa using hw)) ⟨.bl _,H,I,rfl,?_⟩;rw[show its.toArray.any (eqU x)=its.any (eqU x) by simp,vx r fs];exact q
theorem zP:OpR X (aW .NotIn) (rIn X.K true):=by
 intro pins s σ H x y v u Q I rx ry h;obtain⟨p,xs,rfl,hq,fx,fs,q⟩:=h;cases ry;rcases hq with hq|hq
 ·obtain⟨its,r,pl,hz⟩:=I.list hq;refine SeqAt.notIn_listAt (eqU x) pl.isList (λw hw=>ua rx fx r fs w (by simpa using hw)) ⟨.bl _,H,I,rfl,?_⟩;rw[show its.toArray.any (eqU x)=its.any (eqU x) by simp,vx r fs];exact q
 ·obtain⟨its,r,pl,hz⟩:=I.tuple hq;refine SeqAt.notIn_tupleAt (eqU x) pl (λw hw=>ua rx fx r fs w (by simpa using hw)) ⟨.bl _,H,I,rfl,?_⟩;rw[show its.toArray.any (eqU x)=its.any (eqU x) by simp,vx r fs];exact q
theorem zQ:pD X (.builtin "len") (λxs H Q=>∃p ys,xs=[.ref p]/\(SqL X.K H p ys\/SqT X.K H p ys)/\Q (.int ys.length) H):=by
 intro pins s σ H xs us Q I r h;obtain⟨p,ys,rfl,hq,q⟩:=h;obtain⟨u,rfl,rx⟩:=vals1 r;cases rx;have hn:=v3;rcases hq with hq|hq
 ·obtain⟨its,r',pl,hz⟩:=I.list hq;have hlen:=r'.length;exact Calls.call_len_list pl.isList (by simp only[aS]<;>omega) ⟨.int ys.length,H,I.tok _,⟨s.toks+1,by rw[aS,hlen]⟩,q⟩
 ·obtain⟨its,r',pl,hz⟩:=I.tuple hq;have hlen:=r'.length;exact len_tuple pl (by simp only[aS]<;>omega) ⟨.int ys.length,H,I.tok _,⟨s.toks+1,by rw[aS,hlen]⟩,q⟩
theorem zR:pD X (.builtin "len") (λxs H Q=>∃z,xs=[.str z]/\z.length<=ay/\Q (.int z.length) H):=by intro pins s σ H xs us Q I r h;obtain⟨z,rfl,hz,q⟩:=h;obtain⟨u,rfl,t,rfl⟩:=vals1 r;have hn:=v3;exact len_str (by omega) ⟨.int z.length,H,I.tok _,⟨_,rfl⟩,q⟩
theorem zS:pD X (.type "list") (λxs H Q=>∃p ys,xs=[.ref p]/\(SqL X.K H p ys\/SqT X.K H p ys)/\∀l,H l=none->Q (.ref l) (upd H l (.lst ys))):=by
 intro pins s σ H xs us Q I r h;obtain⟨p,ys,rfl,hq,q⟩:=h;obtain⟨u,rfl,rx⟩:=vals1 r;cases rx;have fin:∀(its:List aa),Vals ys its->ys.length<=ay->∀(h':Heap) (c':Nat),(∀b o',s.heap.get? b=some o'->h'.get? b=some o')->
   h'.get? s.heap.objs.size=some { cls:=.type "list", dict:=none,data:=.seq its.toArray c',slots:=#[] }->EP X pins σ Q (.ref s.heap.objs.size) { s with heap:=h' }:=λits r' hz h' c' kp e=>
  ⟨.ref s.heap.objs.size,_,I.laid (t':=s.toks) kp (aA _) (show oP X.prog X.w _ h' _ (.lst ys) from⟨hz,its,c',r',e⟩),rfl,q _ (I.hok.fresh (aA _))⟩
 rcases hq with hq|hq
 ·obtain⟨its,r',pl,hz⟩:=I.list hq;have hlen:=r'.length;obtain⟨o,ho,hc,n,hd⟩:=pl.isList;exact kI p (.inl rfl) ho hc hd (λh' c' kp e=>fin its r' hz h' c' kp e) (by simp only[aS]<;>omega)
 ·obtain⟨its,r',pl,hz⟩:=I.tuple hq;have hlen:=r'.length;obtain⟨o,ho,hc,n,hd⟩:=pl;exact kI p (.inr rfl) ho hc hd (λh' c' kp e=>fin its r' hz h' c' kp e) (by simp only[aS]<;>omega)
def tyV(K:aj)(T:String)(x:V)(H:Hp):Prop:=match x with
 |.str _=>T="str"
 |.int _=>T="int"
 |.ref p=>(T="list" /\ ∃xs,SqL K H p xs)\/(T="tuple" /\ ∃o,K.lookup p=some o/\o.cls=.type "tuple" /\ o.dict=none)\/
   (T="dict" /\ ((∃kvs,H p=some (.dK kvs))\/∃kvs,H p=some (.dT kvs)))\/(T="set" /\ ∃S n,H p=some (.set S n))
 |_=>False
theorem K8{H:Hp}{s:ae}{x:V}{v:aa}(I:Inv X pins σ H s)(r:RelV x v)(ty:tyV X.K T x H):
  s.TypeIs v T/\∀a,v=.ref a->∃ob,s.heap.get? a=some ob/\ob.dict=none:=by
 cases x with
 |str z=>obtain⟨t,rfl⟩:=r;cases (show T="str" from ty);exact⟨typeIs_str s z t,λ_ e=>nomatch e⟩
 |int i=>obtain⟨t,rfl⟩:=r;cases (show T="int" from ty);exact⟨typeIs_int s i t,λ_ e=>nomatch e⟩
 |ref p=>
  cases r;rcases ty with ⟨rfl,xs,hq⟩|⟨rfl,o,hk,hc,hd⟩|⟨rfl,hk⟩|⟨rfl,S,n,hk⟩
  ·obtain⟨its,_,pl,_⟩:=I.list hq;refine⟨pl.isList.typeIs,λa e=>?_⟩;cases e;obtain⟨o,n,e,c,hd,_⟩:=pl;exact⟨o,e,hd⟩
  ·refine⟨⟨o,I.kIn p o hk,hc⟩,λa e=>?_⟩;cases e;exact⟨o,I.kIn _ o hk,hd⟩
  ·have z:∃o,s.heap.get? p=some o/\o.ExactDict:=by
    rcases hk with ⟨kvs,hk⟩|⟨kvs,hk⟩
    ·obtain⟨_,_,_,_,o,_,_,e,ex,_⟩:=I.hok p _ hk;exact⟨o,e,ex⟩
    ·obtain⟨_,_,_,_,o,_,_,e,ex,_⟩:=I.hok p _ hk;exact⟨o,e,ex⟩
   obtain⟨o,e,ex⟩:=z;refine⟨⟨o,e,ex.1⟩,λa e2=>?_⟩;cases e2;exact⟨o,e,ex.2.1⟩
  ·obtain⟨o,_,_,_,e,ex,_⟩:=I.hok p _ hk;refine⟨⟨o,e,ex.1⟩,λa e2=>?_⟩;cases e2;exact⟨o,e,ex.2.1⟩
 |_=>exact bN ty
def tBM(K:aj)(T:String)(r:V->List V->Hp->VK->Prop)(to:TE)(t:TA):TE:=λσ H Q=>to σ H λx H1=>tyV K T x H1/\t σ H1 λxs H2=>r x xs H2 Q
variable{o e:Expr}{es:List Expr}{to:TE}{t:TA}{name:Str}{apos cpos:Pos}{T id:String}{r:V->List V->Hp->VK->Prop}
theorem Ox(pa:i5 T)(slot:Slot T name id)(hty:typeOf (.builtin id)=pure (.type "method_descriptor"))(hm:MtR X id r)(ho:PE X o to)(ha:PA X (e::es) t)
  (hbase:dZ o name X.env (eval o X.env)=eval o X.env:=by rfl)
  (hfew:((aX cpos (aq (e::es) X.env)).all (λx=>!x.1)&&(backToKw cpos (df [] X.env)).all (λx=>x.1.isSome)
   && decide ((e::es).length+([]:List eY).length+(if ([]:List eY).isEmpty then 0 else 1)<30))=true:=by rfl)
  (hline:(apos.endLine==cpos.line)=true:=by rfl) (hs:aq (e::es) X.env=(false,eval e X.env)::aq es X.env:=by rfl) (hplain:(aX cpos (aq es X.env)).any (·.1)=false:=by rfl):
  PE X (.Call (.Attribute o name apos) (e::es) [] cpos) (tBM X.K T r to t):=by
 intro pins s σ H Q I h;refine wpAny_Call_method_late hbase hfew hline rfl (thn (ho pins s σ H _ I h) λv s1 zz=>?_);obtain⟨x,H1,I1,r1,ty,q1⟩:=zz;obtain⟨h1,h2⟩:=K8 I1 r1 ty;refine⟨T,id,pa,slot,hty,h1,h2,?_⟩;have hA:=ha cpos pins s1 σ H1 _ I1 q1;rw[hs]at hA ⊢;refine jm (by show (false||(aX cpos (aq es X.env)).any (·.1))=false;rw[hplain]<;>rfl) (hG ?_)
 exact thn hA λus s2 ⟨vs,H2,I2,r2,q2⟩=>hm pins s2 σ H2 x vs v us Q I2 r1 r2 q2
end
def MtM(X:Cx)(id:String)(r:V->List V->Hp->VK->Prop):Prop:=
 ∀(pins:List (Addr×Obj)) (s:ae) (σ:St) (H:Hp) (x:V) (xs:List V) (v:aa) (us:List aa) (Q:VK),Inv X pins σ H s->RelV x v->Vals xs us->r x xs H Q->
  ah (model X.prog X.w) X.A (call (.builtin id) (v::us)) (EP X pins σ Q) X.xe s
theorem Vals.one:∀{x:V} {us:List aa},Vals [x] us->∃u,us=[u]/\RelV x u
 |_,_,.cons r .nil=>⟨_,rfl,r⟩
variable{t':Nat}
section
variable{X:Cx}{pins:List (Addr×Obj)}{σ:St}{H:Hp}{s:ae}{l b:Addr}{xs ys zs:List V}
theorem Inv.lset{n:Nat}{f:Array aa->Array aa}(I:Inv X pins σ H s)(hH:H l=some (.lst xs))
  (e:s.heap.get? l=some { cls:=.type "list", data:=.seq its.toArray n }) (hf:f its.toArray=its'.toArray) (hv:Vals ys its') (hz:ys.length<=ay):
  Inv X pins σ (upd H l (.lst ys)) { s with heap:=s.heap.update l (eS f),toks:=t' }:=by
 have q:=PySem.IsL.update e f;rw[hf]at q;refine I.write (x:=l) (e:=l) (by rw[hH];exact trivial) (.inl rfl) (λb' u hb hu=>(jk s.heap (eS f) (dJ hb)).trans hu) ⟨_,q⟩ ?_;exact⟨hz,its',_,hv,q⟩
theorem Inv.lnew(I:Inv X pins σ H s)(hv:Vals ys its)(hz:ys.length<=ay):
  Inv X pins σ (upd H s.heap.objs.size (.lst ys)) { s with heap:=s.heap.push { cls:=.type "list", data:=.seq its.toArray },toks:=t' }:=
 I.laid (λ_ _ q=>aL _ q) (aA _) ⟨hz,its,0,hv,bA _ rfl⟩
theorem Inv.fresh(I:Inv X pins σ H s):H s.heap.objs.size=none:=I.hok.fresh (aA _)
theorem Inv.lstM(I:Inv X pins σ H s)(hH:H l=some (.lst xs)):xs.length<=ay/\∃(its:List aa) (n:Nat),Vals xs its/\xs.length=its.length/\s.heap.get? l=some { cls:=.type "list", data:=.seq its.toArray n }:=by obtain⟨z,its,n,r,e⟩:=I.hok l _ hH;exact⟨z,its,n,r,r.length,e⟩
theorem AQ{n:Nat}(h:n<=ay):fi n=false:=by unfold fi;exact aQ (by omega)
end
section
variable{X:Cx}
def zT:V->List V->Hp->VK->Prop:=λx vs H Q=>∃l xs y,x=.ref l/\vs=[y]/\H l=some (.lst xs)/\xs.length<ay/\Q .non (upd H l (.lst (xs++[y])))
theorem v7:MtM X "list.append" zT:=by intro pins s σ H x vs v us Q I rx rv h;obtain⟨l,xs,y,rfl,rfl,hH,hz,q⟩:=h;cases rx;obtain⟨u,rfl,ru⟩:=rv.one;obtain⟨z,its,n,r,hl,e⟩:=I.lstM hH;refine i6 ic ⟨_,e,rfl⟩ F.entry_list_append (F.args_list_append_2 _ _) (PySem.list_append l its.toArray n u (by rw[aS];omega)) ⟨e,?_⟩;refine⟨.non,_,I.lset (its':=its++[u]) hH e (by simp) (r.append (.cons ru .nil)) ?_,rfl,q⟩;rw[aw,br];omega
def CK:V->List V->Hp->VK->Prop:=λx vs H Q=>∃l b xs zs,x=.ref l/\vs=[.ref b]/\H l=some (.lst xs)/\H b=some (.lst zs)/\xs.length+zs.length<=ay/\Q .non (upd H l (.lst (xs++zs)))
theorem D5:MtM X "list.extend" CK:=by
 intro pins s σ H x vs v us Q I rx rv h;obtain⟨l,b,xs,zs,rfl,rfl,hH,hB,hz,q⟩:=h;cases rx;obtain⟨u,rfl,ru⟩:=rv.one;cases ru;obtain⟨z,its,n,r,hl,e⟩:=I.lstM hH;obtain⟨z2,its2,n2,r2,hl2,e2⟩:=I.lstM hB;have hsz:its.toArray.size+its2.toArray.size<=ay:=by rw[aS,aS];omega
 have hlong:¬(!its.toArray.isEmpty&&fi (its.toArray.size+its2.toArray.size))=true:=by rw[AQ hsz,c6];exact bc
 refine i6 f9 ⟨_,e,rfl⟩ jD (jy _ _)
  (AutoSeq1.list_extend_list_list_0 l its.toArray n b its2.toArray n2 hlong (by rw[aS];omega) (by omega)) ⟨e,e2,?_⟩
 refine⟨.non,_,I.lset (its':=its++its2) hH e (by simp) (r.append r2) ?_,rfl,q⟩;rw[aw];omega
def P5:R2:=λx y H Q=>∃l b xs zs,x=.ref l/\y=.ref b/\H l=some (.lst xs)/\H b=some (.lst zs)/\xs.length+zs.length<=ay/\∀p,H p=none->Q (.ref p) (upd H p (.lst (xs++zs)))
theorem K9:OpR X (cF .Add) P5:=by
 intro pins s σ H x y v u Q I rx ry h;obtain⟨l,b,xs,zs,rfl,rfl,hH,hB,hz,q⟩:=h;cases rx;cases ry;obtain⟨z,its,n,r,hl,e⟩:=I.lstM hH;obtain⟨z2,its2,n2,r2,hl2,e2⟩:=I.lstM hB;refine PySem.P.add_list e e2 ?_ (by rw[aS,aS];omega);have ea:its.toArray++its2.toArray=(its++its2).toArray:=by simp
 rw[ea];exact⟨.ref _,_,I.lnew (t':=s.toks) (r.append r2) (by rw[aw];omega),rfl,q _ I.fresh⟩
end
section
variable{prog:ar}{w:ao}{A:av}{E:aa->ae->Prop}{s:ae}
set_option maxRecDepth 100000 in
end
section
variable{κ:Type}[DecidableEq κ]
def qS(kvs:List (κ×V))(k:κ):Option V:=(kvs.find? λkv=>decide (kv.1=k)).map (·.2)
def putK(kvs:List (κ×V))(k:κ)(v:V):List (κ×V):=
 if (kvs.any λkv=>decide (kv.1=k))=true then kvs.map (λkv=>if kv.1=k then (kv.1,v)else kv)else kvs++[(k,v)]
theorem vy{p:κ×V}{r:List (κ×V)}{k:κ}(e:p.1=k):qS (p::r) k=some p.2:=by simp[qS,dD,e]
theorem vz{p:κ×V}{r:List (κ×V)}{k:κ}(e:¬p.1=k):qS (p::r) k=qS r k:=by simp[qS,dD,e]
theorem xO(k:κ):∀kvs:List (κ×V),(kvs.any λkv=>decide (kv.1=k))=(qS kvs k).isSome
 |[]=>rfl
 |p::r=>by
  rw[d5];by_cases e:p.1=k
  ·simp only[vy e,aH e,Bool.true_or,Option.isSome_some]
  ·rw[vz e,aQ e,Bool.false_or];exact xO k r
theorem ub(kvs:List (κ×V))(k:κ)(v:V):(putK kvs k v).length<=kvs.length+1:=by
 unfold putK;split
 ·rw[af];omega
 ·rw[aw,aD,b8];omega
theorem E9{kvs:List (κ×V)}{k:κ}(v:V)(h:qS kvs k=none):putK kvs k v=kvs++[(k,v)]:=by unfold putK;rw[xO,h];exact ai (by decide)
theorem uK.isSome_eq{o:Option V}{u:Option aa}(r:uK o u):o.isSome=u.isSome:=by
 cases o with
 |none=>cases u with
  |none=>rfl
  |some _=>exact(show False from r).elim
 |some _=>cases u with
  |none=>exact(show False from r).elim
  |some _=>rfl
theorem KV.val{kvs:List (κ×V)}{vs:List (κ×aa)}(r:KV kvs vs)(k:κ):uK (qS kvs k) (valueAt vs k):=by
 unfold KV at r
 induction r with
 |nil=>exact True.intro
 |@cons p q ps qs h t ih=>
  obtain⟨h1,h2⟩:=h;by_cases e:p.1=k
  ·have e':q.1=k:=h1.symm.trans e;have b:valueAt (q::qs) k=some q.2:=by simp[valueAt,dD,e']
   rw[vy e,b];exact h2
  ·have e':¬q.1=k:=λz=>e (h1.trans z);have b:valueAt (q::qs) k=valueAt qs k:=by simp[valueAt,dD,e']
   rw[vz e,b];exact ih
theorem KV.any{kvs:List (κ×V)}{vs:List (κ×aa)}(r:KV kvs vs)(k:κ):(kvs.any λkv=>decide (kv.1=k))=vs.any λkv=>decide (kv.1=k):=by
 unfold KV at r
 induction r with
 |nil=>rfl
 |cons h t ih=>rw[d5,d5,ih,h.1]
theorem KV.repl{kvs:List (κ×V)}{vs:List (κ×aa)}(r:KV kvs vs)(k:κ)(ry:RelV y u):
  KV (kvs.map λkv=>if kv.1=k then (kv.1,y)else kv) (vs.map λkv=>if kv.1=k then (kv.1,u)else kv):=by
 unfold KV at r ⊢
 induction r with
 |nil=>exact .nil
 |@cons p q ps qs h t ih=>
  rw[aF,aF];refine .cons ?_ ih;obtain⟨h1,h2⟩:=h;by_cases e:p.1=k
  ·rw[ag e,ag (h1.symm.trans e)];exact⟨h1,ry⟩
  ·rw[ai e,ai (λz=>e (h1.trans z))];exact⟨h1,h2⟩
theorem KV.put{kvs:List (κ×V)}{vs:List (κ×aa)}(r:KV kvs vs)(k:κ)(ry:RelV y u):KV (putK kvs k y) (stored vs k u):=by
 unfold putK stored;rw[r.any k];by_cases e:(vs.any λkv=>decide (kv.1=k))=true
 ·rw[ag e,ag e];exact r.repl k ry
 ·rw[ai e,ai e];exact lj r ⟨rfl,ry⟩
theorem KV.length{kvs:List (κ×V)}{vs:List (κ×aa)}(r:KV kvs vs):kvs.length=vs.length:=iE r
end
theorem y3{P:ar}{w:ao}{k:Key}(r:RelV (kV k) u):(nT P w).is k u=true:=by
 cases k with
 |inl i=>obtain⟨t,e⟩:=(show ∃t,u=Value.int i t from r);subst e;exact AE P w i t
 |inr x=>obtain⟨t,e⟩:=(show ∃t,u=Value.str x t from r);subst e;exact AF P w x t
theorem y4{P:ar}{w:ao}:∀{ks:List Key} {us:List aa},Vals (ks.map kV) us->ItemsAre (nT P w) ks us
 |[],_,r=>by rw[d7]at r;cases r;exact .nil
 |k::ks,_,r=>by
  rw[aF]at r;cases r with
  |cons h t=>exact .cons (y3 h) (y4 t)
abbrev KT(H:Hp):List (List Key×V)->List (List Key×Addr×aa)->Prop:=eV λp q=>p.1=q.1/\H q.2.1=some (.tup (p.1.map kV))/\RelV p.2 q.2.2
variable{kvs:List (List Key×V)}{xs:List (List Key×Addr×aa)}
theorem KT.val{H:Hp}(r:KT H kvs xs)(k:List Key):uK (qS kvs k) ((atKey xs k).map (·.2)):=by
 induction r with
 |nil=>exact True.intro
 |@cons p q ps qs h t ih=>
  obtain⟨h1,_,h2⟩:=h;by_cases e:p.1=k
  ·have e':q.1=k:=h1.symm.trans e;have b:atKey (q::qs) k=some q.2:=by simp[atKey,dD,e']
   rw[vy e,b];exact h2
  ·have e':¬q.1=k:=λz=>e (h1.trans z);have b:atKey (q::qs) k=atKey qs k:=by simp[atKey,dD,e']
   rw[vz e,b];exact ih
theorem KT.repl{H:Hp}(r:KT H kvs xs)(k:List Key)(ry:RelV y u):
  KT H (kvs.map λkv=>if kv.1=k then (kv.1,y)else kv) (xs.map (putAt k u)):=by
 induction r with
 |nil=>exact .nil
 |@cons p q ps qs h t ih=>
  rw[aF,aF];refine .cons ?_ ih;obtain⟨h1,h2,h3⟩:=h;unfold putAt;by_cases e:p.1=k
  ·rw[ag e,ag (h1.symm.trans e)];exact⟨h1,h2,ry⟩
  ·rw[ai e,ai (λz=>e (h1.trans z))];exact⟨h1,h2,h3⟩
theorem KT.put{H:Hp}(r:KT H kvs xs)(k:List Key){b:Addr}(hb:H b=some (.tup (k.map kV)))(ry:RelV y u):
  KT H (putK kvs k y) (storedH xs k b u):=by
 have e:(kvs.any λkv=>decide (kv.1=k))=(atKey xs k).isSome:=by rw[xO,(r.val k).isSome_eq,Option.isSome_map]
 unfold putK storedH;rw[e];by_cases q:(atKey xs k).isSome=true
 ·rw[ag q,ag q];exact r.repl k ry
 ·rw[ai q,ai q];exact lj r ⟨rfl,hb,ry⟩
variable{H':Hp}
theorem KT.keeps{H:Hp}(r:KT H kvs xs)(ht:∀b ys,H b=some (.tup ys)->H' b=some (.tup ys)):KT H' kvs xs:=
 Paired.mapP r λ_ _ z=>⟨z.1,ht _ _ z.2.1,z.2.2⟩
section
variable{P:ar}{w:ao}{H:Hp}{h:Heap}{a:Addr}
theorem JY{u:HO}(ok:HOk P w H h)(e:Rd H a u):oP P w H h a u:=e.ok ok
theorem AR{kvs:List (Key×V)}(ok:HOk P w H h)(e:Rd H a (.dK kvs)):kvs.length<=ay/\(a==cD)=false/\∃vs,KV kvs vs/\h.DictOf (nT P w) a vs:=
 show oP P w H h a (.dK kvs) from JY ok e
theorem JZ{kvs:List (Key×V)}(ok:HOk P w H h)(e:H a=some (.dK kvs)):kvs.length<=ay/\(a==cD)=false/\∃vs,KV kvs vs/\h.DictOf (nT P w) a vs:=AR ok (.inl e)
theorem BR{ks:List Key}(ok:HOk P w H h)(e:H a=some (.tup (ks.map kV))):(tupleKind (nT P w)).is h ks a:=by obtain⟨_,its,r,o,h1,h2,n,h3⟩:=(show oP P w H h a (.tup (ks.map kV)) from ok a _ e);exact⟨o,its.toArray,n,h1,h2,h3,by simpa using y4 r⟩
theorem CL(ok:HOk P w H h)(e:Rd H a (.dT kvs)):kvs.length<=ay/\(a==cD)=false/\
  ∃xs,KT H kvs xs/\h.DictOfH (tupleKind (nT P w)) a xs:=by
 obtain⟨z,y,xs,r,o,es,ep,h1,h2,h3,h4,h5⟩:=(show oP P w H h a (.dT kvs) from JY ok e);refine⟨z,y,xs,r,o,es,ep,h1,h2,h3,h4,λx hx=>?_,h5⟩;have all:∀{l:List (List Key×V)} {m:List (List Key×Addr×aa)},KT H l m->∀x∈m,(tupleKind (nT P w)).is h x.1 x.2.1:=by
  intro l m q
  induction q with
  |nil=>intro x hx;exact nomatch hx
  |@cons p q ps qs hq t ih=>
   intro x hx;rcases aO.mp hx with e|hx
   ·subst e;exact BR ok (by rw[<-hq.1];exact hq.2.1)
   ·exact ih x hx
 exact all r x hx
theorem Oy(ok:HOk P w H h)(e:H a=some (.dT kvs)):kvs.length<=ay/\(a==cD)=false/\
  ∃xs,KT H kvs xs/\h.DictOfH (tupleKind (nT P w)) a xs:=CL ok (.inl e)
end
def DGet(H:Hp)(a:Addr)(y:V)(r:Option V):Prop:=
 (∃kvs k,Rd H a (.dK kvs)/\y=kV k/\r=qS kvs k)\/∃kvs k b,Rd H a (.dT kvs)/\y=.ref b/\H b=some (.tup (k.map kV))/\r=qS kvs k
def Fb(H:Hp)(a:Addr)(y v:V)(H':Hp):Prop:=
 (∃kvs k,H a=some (.dK kvs)/\y=kV k/\kvs.length<ay/\H'=upd H a (.dK (putK kvs k v)))\/
 ∃kvs k b,H a=some (.dT kvs)/\y=.ref b/\H b=some (.tup (k.map kV))/\kvs.length<ay/\H'=upd H a (.dT (putK kvs k v))
theorem Fb.k{H:Hp}{a:Addr}{kvs:List (Key×V)}{k:Key}{v:V}(e:H a=some (.dK kvs))(hl:kvs.length<ay):Fb H a (kV k) v (upd H a (.dK (putK kvs k v))):=.inl ⟨kvs,k,e,rfl,hl,rfl⟩
variable{Q:aa->ae->Prop}{h':Heap}
section
variable{X:Cx}{pins:List (Addr×Obj)}{σ:St}{H:Hp}{s:ae}{a:Addr}{y v:V}{u r:aa}{o:Option V}{A:av}{E:aa->ae->Prop}
theorem Inv.big(I:Inv X pins σ H s):cD<s.heap.objs.size:=by have h:aJ<s.heap.objs.size:=(I.mod.glob.keeps I.bk).lt;exact gw (by decide) h
theorem D6(hu:A.units+1<cLine)(I:Inv X pins σ H s)(g:DGet H a y (some v))(ry:RelV y u)(h:∀w' s',Inv X pins σ H s'->RelV v w'->Q w' s'):
  ah (model X.prog X.w) A (getItem (.ref a) u) Q E s:=by
 rcases g with ⟨kvs,k,e,ey,l⟩|⟨kvs,k,b,e,ey,eb,l⟩
 ·subst ey;obtain⟨z,hd,vs,rel,dd⟩:=AR I.hok e;obtain⟨w',hw,rw'⟩:=uK.some_of (v:=v) (o:=valueAt vs k) (by rw[l];exact rel.val k);exact wpAny_getItem_of (y3 ry) dd.mapOf hw (h w' _ (I.tok _) rw')
 ·subst ey;cases (show u=Value.ref b from ry);obtain⟨z,hd,xs,rel,dd⟩:=CL I.hok e;obtain⟨w',hw,rw'⟩:=uK.some_of (v:=v) (o:=(atKey xs k).map (·.2)) (by rw[l];exact rel.val k)
  obtain⟨p,hp,hp2⟩:=jn.mp hw;refine wpAny_getItem_heap (jL hu) (BR I.hok eb) dd hp ?_;rw[hp2];exact h w' _ (I.tok _) rw'
theorem zU{ob:HO}(I:Inv X pins σ H s)(mu:Mut (H a))(hs:eO a s.heap h')(he:∃q,h'.get? a=some q)(new:oP X.prog X.w (upd H a ob) h' a ob):
  Inv X pins σ (upd H a ob) { s with heap:=h',toks:=t' }:=
 I.write (x:=a) (e:=a) mu (.inl rfl) (λb q hb z=>(hs.2 b hb).trans z) he new
theorem Fc{P:ar}{w:ao}{kvs:List (Key×V)}{vs:List (Key×aa)}(z:kvs.length<=ay)(hd:(a==cD)=false)(rel:KV kvs vs)(dd:h'.DictOf (nT P w) a vs):
  oP P w H' h' a (.dK kvs):=⟨z,hd,vs,rel,dd⟩
theorem D7{Q:Unit->ae->Prop}(hu:A.units+1<cLine)(I:Inv X pins σ H s)(g:Fb H a y v H')(ry:RelV y u)(rv:RelV v r)(h:∀s',Inv X pins σ H' s'->Q () s'):
  ah (model X.prog X.w) A (setItem (.ref a) u r) Q E s:=by
 rcases g with ⟨kvs,k,e,ey,l,eH⟩|⟨kvs,k,b,e,ey,eb,l,eH⟩
 ·subst ey eH;obtain⟨z,hd,vs,rel,dd⟩:=JZ I.hok e;have hz:vs.length<=ay:=by rw[<-rel.length];exact z
  have hl:(putK kvs k v).length<=ay:=by have:=ub kvs k v;omega
  refine wpAny_setItem_pairs (hsz:=hz) (y3 ry) dd λh' dd' hs=>h _ ?_;have he:∃q,h'.get? a=some q:=let ⟨q,_,_,hq,_⟩:=dd';⟨q,hq⟩;exact zU I (by rw[e];exact True.intro) hs he (Fc hl hd (rel.put k rv) dd')
 ·subst ey eH;cases (show u=Value.ref b from ry);obtain⟨z,hd,xs,rel,dd⟩:=Oy I.hok e;have hz:xs.length<=ay:=by rw[<-iE rel];exact z
  have hl:(putK kvs k v).length<=ay:=by have:=ub kvs k v;omega
  refine wpAny_setItem_heap (hsz:=hz) (jL hu) (BR I.hok eb) dd λh' dd' hs=>h _ ?_;obtain⟨q,es,ep,hq,h2,h3,h4,_,h5⟩:=dd';refine zU I (by rw[e];exact True.intro) hs ⟨q,hq⟩ ⟨hl,hd,_,(rel.put k eb rv).keeps λc ys ec=>?_,q,es,ep,hq,h2,h3,h4,h5⟩;rw[nH (N3 ec e (λz=>nomatch z))];exact ec
end
section
variable{X:Cx}{pins:List (Addr×Obj)}{σ:St}{H:Hp}{s:ae}{a:Addr}{kvs:List (Key×V)}{k:Key}{u:aa}{A:av}{E:aa->ae->Prop}
theorem Oz(I:Inv X pins σ H s)(e:Rd H a (.dK kvs))(h:∀t s',Inv X pins σ H s'->Q (.int kvs.length t) s'):ah (model X.prog X.w) A (call (.builtin "len") [.ref a]) Q E s:=by obtain⟨z,hd,vs,rel,dd⟩:=AR I.hok e;refine call_len_dict hd dd (by rw[<-rel.length];rw[cz]at z;omega) ?_;rw[<-rel.length];exact h _ _ (I.tok _)
end
def La(i:Expr):Prop:=∀ov iv,subscripted i false ov iv=operate [ov,iv] (getItem ov iv)
theorem HM{prog:ar}{w:ao}{A:av}{E:aa->ae->Prop}{s:ae}{env:Env}{value slice:Expr}{pos:Pos}{id:String}
  (hl:typeLookup (.type T) "__getitem__" = pure (some (.builtin id))) (hs:La slice)
  (h:ah (model prog w) A (eval value env) (λo s₁=>ah (model prog w) A (eval slice env) (λi s₂=>s₂.TypeIs o T/\ah (model prog w) A (getItem o i) Q E s₂) E s₁) E s):
  ah (model prog w) A (eval (.Subscript value slice pos) env) Q E s:=by
 refine i4 (bx h (λo s₁ h₁=>bx h₁ (λi s₂ h₂=>?_) λ_ _ x=>x) λ_ _ x=>x);obtain⟨hT,h₂⟩:=h₂;unfold subscriptTail;refine au ?_;rw[getitemInPython_of_ne hT.not_modules];refine au (kg hT hl ?_);have fin:ah (model prog w) A (subscripted slice false o i) (λr s₃=>ah (model prog w) A (letTemporaryGo value o r>>=λ_=>pure r) Q E s₃) E s₂:=by rw[hs o i];exact wpAny_operating (bx h₂ (λr s₃ h₃=>au (wpAny_letTemporaryGo (aC h₃))) λ_ _ x=>x)
 first
  |exact aC (au fin)
  |exact au (aC (au fin))
  |exact au fin
variable{X:Cx}{a:Addr}
theorem AS{H:Hp}{s:ae}{o:Option V}(I:Inv X pins σ H s)(g:DGet H a y o):s.TypeIs (.ref a) "dict" := by
 rcases g with ⟨kvs,k,e,_,_⟩|⟨kvs,k,b,e,_,_,_⟩
 ·obtain⟨_,_,vs,_,dd⟩:=AR I.hok e;exact dd.typeIs
 ·obtain⟨_,_,xs,_,dd⟩:=CL I.hok e;exact dd.typeIs
def OA(td ty:TE):TE:=λσ H Q=>td σ H λx H1=>ty σ H1 λy H2=>∃a v,x=.ref a/\DGet H2 a y (some v)/\Q v H2
def J0(td ty tv:TE):TS:=λD σ H=>tv σ H λv H1=>td σ H1 λx H2=>ty σ H2 λy H3=>∃a H4,x=.ref a/\Fb H3 a y v H4/\D.nx σ H4
section
variable{X:Cx}{o i e value:Expr}{pos pos' tpos:Pos}{td ty tv:TE}
theorem HN(hu:X.A.units+1<cLine)(ho:PE X o td)(hi:PE X i ty)(hs:La i):PE X (.Subscript o i pos) (OA td ty):=by intro pins s σ H Q I h;refine HM F.slot_dict_getitem.lookup hs (thn (ho pins s σ H _ I h) λu s1 ⟨x,H1,I1,rx,q1⟩=>thn (hi pins s1 σ H1 _ I1 q1) λiv s2 zz=>?_);obtain⟨y,H2,I2,ry,a,v,ex,g,q2⟩:=zz;subst ex;obtain rfl:u=Value.ref a:=rx;exact⟨AS I2 g,D6 hu I2 g ry λw' s3 I3 rw'=>⟨v,H2,I3,rw',q2⟩⟩
theorem HP(hu:X.A.units+1<cLine)(ho:PE X o td)(hi:PE X i ty)(hv:PE X value tv)(hs:bX value (some (.Subscript o i pos')) pos.line X.env=pure false):
  PS X (.Assign [.Subscript o i pos'] value pos) (J0 td ty tv):=by
 intro pins s σ H D I h;refine wpAny_Assign_Subscript (thn (hv pins s σ H _ I h) λr s1 ⟨v,H1,I1,rv,q1⟩=>thn (ho pins s1 σ H1 _ I1 q1) λu s2 ⟨x,H2,I2,rx,q2⟩=>thn (hi pins s2 σ H2 _ I2 q2) λiv s3 zz=>?_) hs;obtain⟨y,H3,I3,ry,a,H4,ex,g,q3⟩:=zz;subst ex;obtain rfl:u=Value.ref a:=rx;exact D7 hu I3 g ry rv λs4 I4=>⟨σ,H4,I4,q3⟩
end
theorem Fd{P:ar}{w:ao}{H:Hp}(h:Heap)(hb:cD<h.objs.size):oP P w H (h.push { cls:=.type "dict", data:=.dict #[] }) h.objs.size (.dK []):=
 ⟨bW _,beq_eq_false_iff_ne.mpr (dJ (aT hb)),[],.nil,m9 h⟩
def BS:TE:=λ_ H Q=>∀p,H p=none->Q (.ref p) (upd H p (.dK []))
section
variable{X:Cx}{pos:Pos}
theorem AU:PE X (.Dict [] [] pos) BS:=λpins s σ H Q I h=>
 wpAny_Dict_empty ⟨.ref s.heap.objs.size,_,I.laid (a:=s.heap.objs.size) (o:=.dK []) (t':=s.toks) (λ_ _ q=>aL _ q) (aA _) (Fd s.heap I.big),rfl,h _ (I.hok.fresh (aA _))⟩
end
structure M2(X:Cx)(o:Expr)(m:Str)(apos:Pos)(e f:Expr)(cpos:Pos):Prop where
 base:dZ o m X.env (eval o X.env)=eval o X.env
 few:((aX cpos (aq [e,f] X.env)).all (λx=>!x.1)&&(backToKw cpos (df [] X.env)).all (λx=>x.1.isSome)
  && decide (([e,f]:List Expr).length+([]:List eY).length+(if ([]:List eY).isEmpty then 0 else 1)<30))=true
 line:(apos.endLine==cpos.line)=true
 trees:aX cpos (aq [e,f] X.env)=[(false,eval e X.env),(false,eval f X.env)]
def IsD(H:Hp)(a:Addr):Prop:=(∃kvs,Rd H a (.dK kvs))\/∃kvs,Rd H a (.dT kvs)
theorem Lb{H:Hp}{s:ae}(I:Inv X pins σ H s)(d:IsD H a):
  s.TypeIs (.ref a) "dict" /\ (∀b,Value.ref a=.ref b->∃ob,s.heap.get? b=some ob/\ob.dict=none)/\(a==cD)=false:=by
 rcases d with ⟨kvs,e⟩|⟨kvs,e⟩
 ·obtain⟨_,hd,vs,_,dd⟩:=AR I.hok e;refine⟨dd.typeIs,λb q=>?_,hd⟩;cases q;obtain⟨ob,_,_,h1,h2,_⟩:=dd;exact⟨ob,h1,h2.2.1⟩
 ·obtain⟨_,hd,xs,_,dd⟩:=CL I.hok e;refine⟨dd.typeIs,λb q=>?_,hd⟩;cases q;obtain⟨ob,_,_,h1,h2,_⟩:=dd;exact⟨ob,h1,h2.2.1⟩
end L2
namespace Att
open PySem PySem.W PySem.Calls PyProof.Rows
theorem xq{P:fU}{h:Heap}:∀(ns:List Int) (vs:List aa),WellAll P h vs (ns.map WData.int)->fT vs ns:=by
 intro ns
 induction ns with
 |nil=>intro vs w;rw[d7]at w;cases w;exact .nil
 |cons n ns ih=>
  intro vs w;rw[aF]at w;cases w with
  |cons a b=>cases a;exact .cons _ _ (ih _ b)
variable{l:fR}
theorem D8{n:Nat}(hn:l.most=some n){P:fU}{h:Heap}{args:List WData}{vals:List aa}
  (hpre:l.row.toRowW.claim.pre args=true) (hwl:WellAll P h vals args):
  ∃a vs ns,vals=[Value.ref a]/\args=[WData.list (ns.map WData.int)]/\h.get? a=some { cls:=.type "list", data:=.seq vs.toArray }/\fT vs ns/\ns.length<=n:=by
 have hsh:WShape.hasAll [] args [.list .int]=true:=(pre_splitW hpre).1;have hc:l.pre.holds [] { args:=args }=true:=(pre_splitW hpre).2;obtain⟨d,r,rfl,h1,h2⟩:=hasAllW_cons hsh;obtain rfl:=hasAllW_nil h2;obtain⟨xs,rfl,h3⟩:=hasW_list h1;obtain⟨ns,rfl⟩:=items_int h3;have hlen:ns.length<=n:=by
  unfold OpenLaw.pre at hc;have h4:(WTm.not (.lt (.lit (.int (n:Int))) (.len (.arg 0)))).holds [] { args:=[.list (ns.map .int)] }=true:=by have h4:=(holds_andW hc).1;rw[hn]at h4;exact h4
  have h5:=condW_of h4 (w_not (w_lt w_lit (w_len_list (w_arg rfl))));rw[af]at h5;refine j7 λq=>?_;have q':(n:Int)<((ns.length:Nat):Int):=by omega
  first
   |(rw[aH q']at h5;exact ak h5 (by decide))
   |(simp at h5;omega)
 cases hwl with
 |cons w1 w2=>
  cases w2;cases w1 with
  |list ho hall=>exact⟨_,_,ns,rfl,rfl,ho,xq ns _ hall,hlen⟩
theorem D9(l:fR)(args:List WData):l.row.toRowW.claim.post args (.bool true) args=true:=
 postW_of (r:=l.row.toRowW) (X:=(true==true))
  (show lr [] (.bool true) .bool=true by first|rfl|decide|simp[lr,WShape.arms,WShape.armsAll])
  (show (WTm.eq .res (.lit (.bool true))).value [] { args:=args,res:=some (.bool true),after:=args }=some (.bool (true==true)) from w_eq_bool (w_res rfl) w_lit) rfl
theorem attach_call{n:Nat}{q:ar}{loose:List Str}{XP:(Str->Option aa)->Heap->Prop}{YP:ao->Heap->Prop}{d:DefRec}
  (hn:l.most=some n) (hdf:d.params.defaults=[])
  (call:∀(w:ao) (s₀ s₁:ae) (mg mb:Str->Option aa) (fa:Addr) (o:Obj) (pm cd doc:aa) (a:Addr) (vs:List aa) (ns:List Int),
   Ground q loose [] XP w s₀ mg mb s₁.heap->YP w s₁.heap->
   s₁.heap.get? fa=some o->o.data=.func (docDef d.name d.params d.body d.scope pm cd doc)->s₁.heap.CodeRec cd d.name->mg d.name=some (.ref fa)->
   s₁.heap.get? a=some { cls:=.type "list", data:=.seq vs.toArray }->fT vs ns->ns.length<=n->s₁.gens=#[]->
   bS (model l.prog w) callerA (.call (.ref fa) ⟨[.ref a],[]⟩) (λr s'=>r=.ok (.ret (.bool true))/\OldK s₁.heap s'.heap/\s'.os=s₁.os/\cQ s'.gens) s₁):
  WalkO q loose XP YP l.row.toRowW d [] (λf vs=>i7 f vs):=by
 intro w s₀ s₁ mg mb G Y fa o pm cd doc dV kV ho hd hcd hD hmg hg args vals as hpre hlay hrd hwl hlo;obtain rfl:dV=.none:=Dflts.none hD hdf;obtain rfl:kV=.none:=Dflts.noKw hD;obtain⟨a,vs,ns,rfl,rfl,hobj,hints,hlen⟩:=D8 hn hpre hwl;refine enter_call (d6 (call w s₀ s₁ mg mb fa o pm cd doc a vs ns G Y ho (fd_plain hd) hcd hmg hobj hints hlen hg) λr s' hq=>?_);obtain⟨rfl,h2,h3,h4⟩:=hq;exact⟨.inl ⟨.bool true,.bool true,[],rfl,λ_=>rfl,.bool true,D9 l _,λ_=>⟨List.Pairwise.nil,λ_ hm=>(nomatch hm)⟩⟩,h2,h3,h4⟩
end Att
namespace L2
open PySem PySem.Spec PyProof.Rows
theorem y6:∀{vs:List aa} {ns:List Int},fT vs ns->Vals (ns.map V.int) vs
 |_,_,.nil=>.nil
 |_,_,.cons n t h=>.cons ⟨t,rfl⟩ (y6 h)
def Lc(H:Hp):Prop:=∀b,H b=none\/∃o xs,H b=some (.frz o (.lst xs))
variable{a:Addr}{fd:bo}{x:Str}{sp:Sp}
theorem Fe{P:ar}{w:ao}{K:aj}{mg mb:Str->Option aa}{CX:CXT}{k:Nat}{fa:Addr}{s₁:ae}{vs:List aa}{ns:List Int}
  (KX:K.In s₁.heap) (hns:s₁.heap.Ns aJ mg) (hb:s₁.heap.Ns builtinsNs mb) (hbb:∀x:Str,x≠"__name__" -> mb x=cO x) (hlim:s₁.heap.NoLimit) (hg:s₁.gens=#[])
  (ha:s₁.heap.get? a=some { cls:=.type "list", data:=.seq vs.toArray }) (hi:fT vs ns) (hl:ns.length<=ay) (hr:oQ k callerA)
  (F:∀base:Heap,K.In base->base.Ns aJ mg->qu P w K mg base CX k fa fd [x] sp) (hbind:∀(s:ae) (u:aa),eX s fd ⟨[u],[]⟩ [(x,u)])
  (hsp:∀H:Hp,Lc H->SqL K H a (ns.map V.int)->sp [.ref a] H (λv _=>v=.bl true) λ_ _ _=>False)
  (hCX:∀H e s',CX [] H s₁ (λ_ _ _=>False) e s'->False):
  bS (model P w) callerA (.call (.ref fa) ⟨[.ref a],[]⟩) (λr s'=>r=.ok (.ret (.bool true))/\OldK s₁.heap s'.heap/\s'.os=s₁.os/\cQ s'.gens) s₁:=by
 have rv:=y6 hi;have lenV:=hi.length;have core:∀H:Hp,Lc H->SqL K H a (ns.map V.int)->HOk P w H s₁.heap->(∀b,H b≠none->b=a)->(H a≠none->K.lookup a=none)->
   bS (model P w) callerA (.call (.ref fa) ⟨[.ref a],[]⟩) (λr s'=>r=.ok (.ret (.bool true))/\OldK s₁.heap s'.heap/\s'.os=s₁.os/\cQ s'.gens) s₁:=by
  intro H hO hS hok hA hK;have base_of:∀{b:Addr} {o:Obj},s₁.heap.get? b=some o->H b=none->(zH s₁.heap H).get? b=some o:=λe n=>EM e n;have noA:∀{b:Addr} {o:Obj} {es:Array DictEntry} {ep:Nat},s₁.heap.get? b=some o->o.data=.dict es ep->H b=none:=λ{b o es ep} e d=>by
   cases q:H b with
   |none=>rfl
   |some u=>have e':b=a:=hA b (by rw[q];simp);subst e';rw[ha]at e;cases e;have d':Data.seq vs.toArray _=Data.dict es ep:=d;cases d'
  have nsK:∀{b:Addr} {m:Str->Option aa},s₁.heap.Ns b m->(zH s₁.heap H).Ns b m:=λ{b m} ⟨o,es,ep,e,d,r⟩=>⟨o,es,ep,base_of e (noA e d),d,r⟩;have hKb:K.In (zH s₁.heap H):=λb o e=>base_of (KX b o e) (by
   cases q:H b with
   |none=>rfl
   |some u=>
    have e':b=a:=hA b (by rw[q];simp);subst e';rw[hK (by rw[q];simp)]at e;cases e)
  have hM:Mod K mg (zH s₁.heap H):=⟨hKb,nsK hns,⟨mb,nsK hb,hbb⟩,let ⟨mc,h1,h2⟩:=hlim;⟨mc,nsK h1,h2⟩⟩;have e0:BP P w K mg (zH s₁.heap H) callerA [] s₁ H:=⟨rfl,hM,λb o e=>Hl e,kQ (DO _ _),trivial,λb hb=>ak (show b∈([]:List Addr) from hb) (by simp),hok,.of_eq hg⟩;refine d6 ((F _ hKb (nsK hns)).run callerA [] s₁ H ⟨[.ref a],[]⟩ [.ref a] [.ref a] _ _ hr e0 (hbind s₁ (.ref a)) (.cons rfl .nil) (hsp H hO hS)) λr s' h=>?_;cases r with
  |error e=>exact(hCX H e s' h).elim
  |ok fl=>
   cases fl with
   |next=>exact bN h
   |brk=>exact bN h
   |cont=>exact bN h
   |ret u=>
    obtain⟨v,H',os,bare,un,hok',r',q⟩:=h;have q':v=.bl true:=q;subst q';obtain rfl:u=Value.bool true:=r';refine⟨rfl,OldK.of_keep λb o e=>?_,os,bare⟩;cases q:H b with
    |none=>exact un.keep b o e q (by intro z;exact ak (show b∈([]:List Addr) from z) (by simp)) (by simp)
    |some u=>
     rcases hO b with z|⟨ob,xs,z⟩
     ·rw[q]at z;cases z
     ·have z2:=un.frzs b ob _ z;obtain⟨e1,_⟩:=hok b _ z;obtain⟨e2,_⟩:=hok' b _ z2;rw[e]at e1;cases e1;exact e2
 cases hk:K.lookup a with
 |some o=>have e:=KX a o hk;rw[ha]at e;cases e;refine core (λ_=>none) (λ_=>.inl rfl) (.inr ⟨_,vs.toArray,_,hk,rfl,rfl,rfl,by rw[aS,lenV];exact hl,by simpa using rv⟩) (λb u z=>by have z':(none:Option HO)=some u:=z;cases z') (λb z=>ak rfl z) λz=>ak rfl z
 |none=>
  refine core (λb=>if b=a then some (.frz { cls:=.type "list", data:=.seq vs.toArray } (.lst (ns.map V.int)))else none) (λb=>?_) (.inl (.inr ⟨{ cls:=.type "list", data:=.seq vs.toArray },ag rfl⟩)) (λb u z=>?_) (λb z=>?_) λ_=>hk
  ·by_cases hb:b=a
   ·exact .inr ⟨_,_,ag hb⟩
   ·exact .inl (ai hb)
  ·by_cases hb:b=a
   ·have z':=(ag hb).symm.trans z;cases z';subst hb;exact⟨ha,by rw[af];exact hl,vs,_,rv,ha⟩
   ·have z':=(ai hb).symm.trans z;cases z'
  ·by_cases hb:b=a
   ·exact hb
   ·exact ak (ai hb) z
theorem HQ{l:fR}{n k:Nat}{q:ar}{loose:List Str}{XP:(Str->Option aa)->Heap->Prop}{YP:ao->Heap->Prop}{d:DefRec}{K:fU->aj}{CX:ao->CXT}{sp:ao->Sp}
  (hn:l.most=some n) (hn2:n<=ay) (hdf:d.params.defaults=[]) (hr:oQ k callerA)
  (hY:∀(w:ao) (h:Heap),YP w h->(K w.params).In h)
  (F:∀(w:ao) (mg:Str->Option aa) (fa:Addr) (h:Heap),(K w.params).In h->h.Ns aJ mg->mg d.name=some (.ref fa)->
   ∃fd:bo,(∀(s:ae) (u:aa),eX s fd ⟨[u],[]⟩ [(x,u)])/\
    ∀base:Heap,(K w.params).In base->base.Ns aJ mg->qu l.prog w (K w.params) mg base (CX w) k fa fd [x] (sp w))
  (hsp:∀(w:ao) (H:Hp) (a:Addr) (ns:List Int),ns.length<=n->Lc H->SqL (K w.params) H a (ns.map V.int)->sp w [.ref a] H (λv _=>v=.bl true) λ_ _ _=>False)
  (hCX:∀(w:ao) (H:Hp) (s:ae) (e:aa) (s':ae),CX w [] H s (λ_ _ _=>False) e s'->False):
  W.WalkO q loose XP YP l.row.toRowW d [] (λf vs=>i7 f vs):=by
 refine Att.attach_call hn hdf λw s₀ s₁ mg mb fa o pm cd doc a vs ns G Y ho hd hcd hmg hobj hints hlen hg=>?_;have KX:=hY w _ Y;obtain⟨fd,hb,hF⟩:=F w mg fa _ KX G.T.g hmg;exact Fe KX G.T.g G.T.b G.T.builtins G.T.nolimit hg hobj hints (bw hlen hn2) hr hF hb (λH hO hS=>hsp w H a ns hlen hO hS) λH e s'=>hCX w H s₁ e s'
def inClass(s:Stmt)(j:Nat):Stmt:=match s with
 |.ClassDef _ _ _ body _ _ _ _ _ _ _=>body.getD j (.Pass ⟨0,0,0,0⟩)
 |_=>.Pass ⟨0,0,0,0⟩
def qv(s:Stmt):Arguments:=match s with
 |.FunctionDef _ a _ _ _ _ _ _ _ _=>a
 |_=>{ posonlyargs:=[],args:=[],vararg:=none,kwonlyargs:=[],kw_defaults:=[],kwarg:=none,defaults:=[] }
def nV(s:Stmt):List Stmt:=match s with
 |.FunctionDef _ _ b _ _ _ _ _ _ _=>b
 |_=>[]
def nG(s:Stmt):bT:=match s with
 |.FunctionDef _ _ _ _ _ _ sc _ _ _=>sc
 |_=>{ kind:=.function,names:=[],isGenerator:=false,isCoroutine:=false }
abbrev CX0:CXT:=λ_ _ _ _ _ _=>False
abbrev E0:XK:=λ_ _ _=>False
theorem wL{X:Cx}:Passes CX0 X E0:=λ_ _ _ _ _ _ _ h=>h.elim
structure Fun(K:aj)(x qual:Str)(st:Stmt)(f:Addr)(fd:bo):Prop where
 ex:∃(oc:aa) (od:Option Addr) (kV doc pm:aa) (an:Option Addr) (cdv ct:aa) (osl:Array (Option aa)),
  fd=dh x qual (qv st) (nV st) (nG st) .none kV doc pm an cdv ct/\K.lookup f=some ⟨oc,od,.func fd,osl⟩/\eW K cdv qual=true
 kp:cG K (.ref f)=true
variable{qual:Str}{ps:List Str}
section
variable{P:ar}{w:ao}{K:aj}{mg:Str->Option aa}{base:Heap}
theorem Fun.ok{st:Stmt}{f:Addr}{N:List Str}{k:Nat}(F:Fun K x qual st f fd)(S:oX N ps (nG st))(len:∀vs H Q E,sp vs H Q E->vs.length=ps.length)
  (hbody:∀(cdv:aa) (A:av) (outer:List Env) (s:ae) (H:Hp) (vs:List V) (Q:VK) (E:XK),oQ k (A.deeper (envOfC qual (nG st) s.heap.objs.size f cdv))->sp vs H Q E->
   ∃t,PSs (zM CX0 P w K mg base N qual (nG st) f cdv A outer s H E).nox (nV st) t/\t { nx:=λ_ H'=>Q .non H',rt:=Q } (start N vs) H):qu P w K mg base CX0 (k+1) f fd ps sp:=by
 obtain⟨oc,od,kV,doc,pm,an,cdv,ct,osl,rfl,lk,hcd⟩:=F.ex;refine AM lk hcd S len λA outer s H vs Q E hr hsp=>?_;obtain⟨t,h,q⟩:=hbody cdv A outer s H vs Q E hr hsp;exact⟨t,h.nox,q⟩
theorem Fun.binds{st:Stmt}{f:Addr}(F:Fun K x qual st f fd)
  (h:∀(kV doc pm:aa) (an:Option Addr) (cdv ct:aa) (us:List aa),us.length=ps.length->bindArgs (dh x qual (qv st) (nV st) (nG st) .none kV doc pm an cdv ct) ⟨us,[]⟩=pure (ps.zip us)):Binds K fd ps []:=by
 obtain⟨oc,od,kV,doc,pm,an,cdv,ct,osl,rfl,lk,hcd⟩:=F.ex;exact .all (h kV doc pm an cdv ct)
end
theorem J1{A:av}{k:Nat}(hr:oQ k A):A.units+1<cLine:=ie (Nat.add_le_add_left (by decide:1<=64) _) hr.units
theorem uG{n:Nat}(h:n<=1000):n<ay:=ie h (by decide)
section
variable{X:Cx}
theorem pv(i:Nat){pos:Pos}(hN:X.N[i]?=some x:=by rfl)(hv:Vis X.env.scope x:=by first|exact Or.inl rfl|exact Or.inr (Or.inl rfl)|exact Or.inr (Or.inr rfl))(hd:(x==("__debug__" : Str))=false:=by decide)
  (hcd:(x==("__classdict__" : Str))=false:=by decide):PE X (.Name x pos) (rW i):=Kw hN hv hd hcd
end
variable{B:Prop}
theorem zV{A:Prop}(h:B):if false=true then A else B:=by rw[ai bc];exact h
theorem zW{A:Prop}(h:A):if true=true then A else B:=by rw[ag rfl];exact h
def nE(H H':Hp):Prop:=∀b o,H b=some o->H' b=some o
theorem nE.refl(H:Hp):nE H H:=λ_ _ h=>h
theorem nE.trans{H H1 H2:Hp}(a:nE H H1)(b:nE H1 H2):nE H H2:=λc o h=>b c o (a c o h)
theorem nE.seq{K:aj}{H H':Hp}{xs:List V}(e:nE H H')(h:SqL K H a xs):SqL K H' a xs:=by
 rcases h with (h|⟨o,h⟩)|h
 ·exact .inl (.inl (e _ _ h))
 ·exact .inl (.inr ⟨o,e _ _ h⟩)
 ·exact .inr h
end L2
set_option maxHeartbeats 4000000
namespace L3
open PySem PySem.Spec PyProof.Rows L2
abbrev St:=L2.St
theorem xP{α β:Type}{f:α->β->Sem (ForInStep β)}{g:β->α->β}:∀(l:List α) (b:β),(∀x∈l,∀c,f x c=pure (ForInStep.yield (g c x)))->(forIn l b f:Sem β)=pure (l.foldl g b)
 |[],b,_=>by simp
 |x::r,b,h=>by rw[List.forIn_cons,h x aE b];show (forIn r (g b x) f:Sem β)=_;rw[xP r (g b x) λy hy c=>h y (aG _ hy) c];rfl
def tQ(cells:List (Str×Addr))(cs:List (Str×Addr))(x:Str×cP):List (Str×Addr):=if (x.2==NameKind.free)=true then (x.1,(cells.lookup x.1).getD 0)::cs else cs
def qY(cells:List (Str×Addr))(names:List (Str×cP)):List (Str×Addr):=names.foldl (tQ cells) []
variable{scope:bT}{env:Env}
theorem yO(h:∀x∈scope.names,x.2=.free->∃c,env.cells.lookup x.1=some c):
  closureFor scope env=pure (qY env.cells scope.names):=by
 simp only[closureFor];rw[xP (g:=tQ env.cells) scope.names [] λx hx c=>by
  obtain⟨n,k⟩:=x;by_cases hk:k=.free
  ·subst hk;obtain⟨a,e⟩:=h _ hx rfl;have e':env.cells.lookup n=some a:=e;simp only[tQ,cellOf,e',beq_self_eq_true,if_true,j8];rfl
  ·have hb:(k==NameKind.free)=false:=by simpa using hk
   simp only[tQ,hb,fA,if_false]]
 rfl
theorem AV{cells:List (Str×Addr)}:∀(names:List (Str×cP)) (acc:List (Str×Addr)),(∀x∈names,x.2=.free->∃c,cells.lookup x.1=some c)->(∀x c,acc.lookup x=some c->cells.lookup x=some c)->
  ∀x c,(names.foldl (tQ cells) acc).lookup x=some c->cells.lookup x=some c
 |[],acc,_,ha,x,c,e=>ha x c e
 |y::r,acc,h,ha,x,c,e=>by
  refine AV r (tQ cells acc y) (λz hz=>h z (aG _ hz)) (λz d ez=>?_) x c e;obtain⟨n,k⟩:=y;unfold tQ at ez;split at ez
  ·rename_i hk;obtain⟨a,ea⟩:=h (n,k) aE (by simpa using hk);have ea':cells.lookup n=some a:=ea;rw[dw]at ez;cases hb:z==n with
   |true=>rw[hb]at ez;have ez':some ((cells.lookup n).getD 0)=some d:=ez;rw[ea']at ez';rw[eU hb,ea'];exact ez'
   |false=>rw[hb]at ez;exact ha z d ez
  ·exact ha z d ez
theorem y7{cells:List (Str×Addr)}:∀(names:List (Str×cP)) (acc:List (Str×Addr)) (x:Str),(∃c,acc.lookup x=some c)->∃c,(names.foldl (tQ cells) acc).lookup x=some c
 |[],_,_,h=>h
 |y::r,acc,x,h=>by
  refine y7 r (tQ cells acc y) x ?_;unfold tQ;split
  ·rw[dw];cases x==y.1 with
   |true=>exact⟨_,rfl⟩
   |false=>exact h
  ·exact h
theorem xQ{cells:List (Str×Addr)}:∀(names:List (Str×cP)) (acc:List (Str×Addr)) (x:Str),(x,NameKind.free)∈names->∃c,(names.foldl (tQ cells) acc).lookup x=some c
 |[],_,_,h=>by cases h
 |y::r,acc,x,h=>by
  rcases aO.mp h with e|h
  ·subst e;refine y7 r _ x ?_;unfold tQ;rw[ag (by simp),dw];simp
  ·exact xQ r _ x h
theorem sZ{env:Env}(x:Str):∀(names:List (Str×cP)),
  (names.map λ(n,k)=>if (k==NameKind.free&&env.scope.kind==.function&&env.kindOf n==some .cell)then (n,NameKind.cell)else (n,k)).lookup x=
   (names.lookup x).map λk=>if (k==NameKind.free&&env.scope.kind==.function&&env.kindOf x==some .cell)=true then NameKind.cell else k
 |[]=>rfl
 |(n,k)::r=>by
  have ih:=sZ (env:=env) x r;rw[aF,dw (k:=n)];show cA x ((if (k==NameKind.free&&env.scope.kind==.function&&env.kindOf n==some .cell)=true then (n,NameKind.cell)else (n,k))::_)=_;cases hx:x==n with
  |true=>
   have e:=eU hx;subst e;split
   ·rename_i hc;simp only[dw,hx,dU,hc,if_true]
   ·rename_i hc;simp only[dw,hx,dU];rw[ai hc]
  |false=>
   rw[<-ih];split
   ·simp only[dw,hx]
   ·simp only[dw,hx]
variable{x:Str}
theorem BU(hcell:∀y∈scope.names,y.2≠.cell)(h:(relabel scope env).names.lookup x=some .cell\/(relabel scope env).names.lookup x=some .free):(x,NameKind.free)∈scope.names:=by
 have e:=sZ (env:=env) x scope.names;have h':(scope.names.lookup x).map (λk=>if (k==NameKind.free&&env.scope.kind==.function&&env.kindOf x==some .cell)=true then NameKind.cell else k)=some .cell\/
   (scope.names.lookup x).map (λk=>if (k==NameKind.free&&env.scope.kind==.function&&env.kindOf x==some .cell)=true then NameKind.cell else k)=some .free:=by
  rw[<-e];exact h
 cases q:scope.names.lookup x with
 |none=>rw[q]at h';rcases h' with z|z<;>cases z
 |some k=>
  rw[q]at h';have hm:=mem_of_lookup q;have hc:=hcell _ hm;cases k with
  |free=>exact hm
  |cell=>exact ak rfl hc
  |_=>rcases h' with z|z<;>cases z
theorem yP(h:scope.names.lookup x=some .free):(relabel scope env).names.lookup x=some .cell\/(relabel scope env).names.lookup x=some .free:=by
 have e:=sZ (env:=env) x scope.names;have e':(relabel scope env).names.lookup x=(scope.names.lookup x).map λk=>if (k==NameKind.free&&env.scope.kind==.function&&env.kindOf x==some .cell)=true then NameKind.cell else k:=e
 rw[e',h,dU];split
 ·exact .inl rfl
 ·exact .inr rfl
def oT(X:Cx)(N':List Str)(scope:bT)(cl:List (Str×Addr))(C:Addr)(fp:List Addr)(s:ae)(H:Hp):Cx:=
 { X with N:=N',s₀:=s,H₀:=H,env:=compEnvC scope cl C X.env,outer:=X.stack,ex:=fp,fn:=λ_=>false,pn:=[],xe:=λ_ _=>False }
def PIf(X:Cx)(ifs:List Expr)(t:TT):Prop:=
 ∀(pins:List (Addr×Obj)) (s:ae) (σ:St) (H:Hp) (Q:Bool->Hp->Prop),Inv X pins σ H s->t σ H Q->
  ah (model X.prog X.w) X.A (forIn ifs true λc r=>if r=true then do let ok<-isTrue c X.env (eval c X.env);pure (ForInStep.yield ok)else pure (ForInStep.yield r)) (TP X pins σ Q) X.xe s
def P6:TT:=λ_ H Q=>Q true H
variable{X:Cx}
theorem HR:PIf X [] P6:=λ_ _ _ H _ I h=>wpAny_tests_nil ⟨H,I,h⟩
theorem HU{c:Expr}{t:TT}(h:PT X c t):PIf X [c] t:=λpins s σ H Q I hq=>wpAny_tests_one (h pins s σ H Q I hq)
variable{elt iter:Expr}{ifs:List Expr}{pos:Pos}
section
variable{prog:ar}{w:ao}{A:av}{R:cR->ae->Prop}{s:ae}
theorem zX{target:Expr}{it acc:aa}(J:Nat->ae->Prop)
  (turn:∀n s,J n s->ah (model prog w) A (pyNext it) (λr s₁=>match r with
   |none=>R (.ok .next) s₁
   |some v=>ah (model prog w) A (eG target it v) (λ_ s₁'=>ah (model prog w) A (assign target env v) (λ_ s₂=>
     ah (model prog w) A (forIn ifs true λc r=>if r=true then do let ok<-isTrue c env (eval c env);pure (ForInStep.yield ok)else pure (ForInStep.yield r)) (λok s₃=>
      if ok=true then ah (model prog w) A (eval elt env) (λx s₄=>
       ah (model prog w) A (call (.builtin "list.append") [acc,x]) (λ_ s₅=>∃m,m<n/\J m s₅) (notedBy (model prog w) A env λe s'=>R (.error e) s') s₄) (notedBy (model prog w) A env λe s'=>R (.error e) s') s₃
      else ∃m,m<n/\J m s₃) (notedBy (model prog w) A env λe s'=>R (.error e) s') s₂) (notedBy (model prog w) A env λe s'=>R (.error e) s') s₁')
      (notedBy (model prog w) A env λe s'=>R (.error e) s') s₁) (notedBy (model prog w) A env λe s'=>R (.error e) s') s)
  (n:Nat) (h:J n s):
  bS (model prog w) A (.compLoop (.ListComp elt [⟨target,iter,ifs,0⟩] scope pos) 0 it acc env) R s:=by
 refine codeAny_loop rfl J (λn s hI=>?_) n h;show ah _ A ((compTurn (.ListComp elt [⟨target,iter,ifs,0⟩] scope pos) 0 it acc env).onRaise (λx=>do noteFrame x env;theTreesLotGoes x)) _ _ s;refine wpAny_noted ?_;rw[compTurn_list];refine au (iF (au (bx (turn n s hI) (λr s₁ h₁=>?_) λ_ _ h'=>h')));cases r with
 |none=>exact aC h₁
 |some v=>
  refine au (bx h₁ (λ_ s₁' h₁'=>?_) λ_ _ h'=>h');refine au (bx h₁' (λ_ s₂ h₂=>au (bx h₂ (λok s₃ h₃=>?_) λ_ _ h'=>h')) λ_ _ h'=>h');cases ok with
  |false=>exact aC ⟨rfl,h₃⟩
  |true=>exact au (au (bx h₃ (λx s₄ h₄=>au (bx h₄ (λ_ s₅ h₅=>aC (aC ⟨rfl,h₅⟩)) λ_ _ h'=>h')) λ_ _ h'=>h'))
end
def qw(k:Nat)(cap:List Nat)(σ:St):St:=fK k none++cap.map λj=>(σ[j]?).join
variable{σ:St}{i:Nat}
theorem y8{k:Nat}{cap:List Nat}{v:V}(h:(qw k cap σ)[i]?=some (some v)):k<=i:=by
 by_cases hi:k<=i
 ·exact hi
 ·unfold qw at h;rw[ck (by rw[bO];omega),fj]at h;split at h<;>cases h
variable{N N':List Str}
theorem Ea{k:Nat}{cap:List Nat}{v:V}(hcap:(N'.drop k).map some=cap.map λj=>N[j]?)(hx:N'[i]?=some x)(h:(qw k cap σ)[i]?=some (some v)):
  ∃j:Nat,N[j]?=some x/\σ[j]?=some (some v)/\x∈N'.drop k:=by
 have hi:=y8 h;unfold qw at h;rw[cH (by rw[bO];exact hi),bO,aZ]at h;have hd:(N'.drop k)[i - k]?=some x:=by rw[cU,show k+(i - k)=i by omega];exact hx
 have e:=aM (λl=>l[i - k]?) hcap;simp only[aZ,hd,dU]at e;cases q:cap[i - k]? with
 |none=>rw[q]at h;cases h
 |some j=>
  rw[q]at h e;simp only[dU,jV]at h e;refine⟨j,e.symm,?_,bz hd⟩;cases z:σ[j]? with
  |none=>rw[z]at h;cases h
  |some o=>rw[z]at h;have h':o=some v:=h;rw[h']
def wM(wi:TI)(g:TG)(tt:TT)(te:TE)(k:Nat)(cap:List Nat):TE:=λσ H Q=>wi σ H λJ H1=>∀p,H1 p=none->
 ∃W:Nat->Nat->List V->Hp->Prop,(∃m,W 0 m [] (upd H1 p (.lst [])))/\∀i m acc H2,W i m acc H2->
  (J.stop i H2/\Q (.ref p) H2)\/
   (J.go i H2/\∀x H3,J.yld i H2 x H3->g x (qw k cap σ) H3 λσ4 H4=>σ4.drop k=(qw k cap σ).drop k/\tt σ4 H4 λb H5=>
    if b=true then te σ4 H5 λy H6=>∃acc',H6 p=some (.lst acc')/\acc'.length<ay/\∃m',m'<m/\W (i+1) m' (acc'++[y]) (upd H6 p (.lst (acc'++[y])))
    else ∃m',m'<m/\W (i+1) m' acc H5)
variable{tg:Expr}{wi:TI}{tt:TT}{te:TE}
theorem y9{pins:List (Addr×Obj)}{s:ae}{H:Hp}{use:Option (aa->Sem Unit)}{P:aa->ae->Prop}{Q:V->Hp->Prop}{k:Nat}{cap:List Nat}{g:TG}
  (hc:X.calm=true) (hi:PI X tg iter wi)
  (body:∀(cl:List (Str×Addr)) (C:Addr) (fp:List Addr) (s:ae) (H:Hp),PG (oT X N' scope cl C fp s H) tg g/\PIf (oT X N' scope cl C fp s H) ifs tt/\PE (oT X N' scope cl C fp s H) elt te)
  (hkind:scope.kind=.function) (hcell:(scope.names.all λy=>y.2 != .cell)=true)
  (hloc:(scope.names.all λy=>y.2 != .local||scope.names.lookup y.1==some .local)=true)
  (hfree:(scope.names.all λy=>y.2 != .free||(X.env.kindOf y.1==some .cell||X.env.kindOf y.1==some .free))=true)
  (hlen:N'.length=k+cap.length) (hcap:(N'.drop k).map some=cap.map λj=>X.N[j]?)
  (hcf:((N'.drop k).all λx=>scope.names.lookup x==some .free)=true)
  (hs:∀x,fC iter X.env x=pure x)
  (I:Inv X pins σ H s) (h:wM wi g tt te k cap σ H Q)
  (fin:∀a C m u s4 H3,s4.heap.Ns C m->Inv X pins σ H3 s4->zJ X pins H3 C->Q (.ref a) H3->compPost (model X.prog X.w) X.A X.xe use P (.ref a) C (.ok u) s4):
  ah (model X.prog X.w) X.A (comprehension (.ListComp elt [⟨tg,iter,ifs,0⟩] scope pos) scope X.env (firstIterPos [⟨tg,iter,ifs,0⟩] pos) (newList []) false (eval iter X.env) use) P X.xe s:=by
 have hcell':∀y∈scope.names,y.2≠.cell:=λy hy e=>by have z:=aK.mp hcell y hy;rw[e]at z;exact ak z (by decide)
 have hloc':∀y∈scope.names,y.2=.local->scope.names.lookup y.1=some .local:=λy hy e=>by have z:=aK.mp hloc y hy;rw[e]at z;simpa using z
 have hfree':∀y∈scope.names,y.2=.free->X.env.kindOf y.1=some .cell\/X.env.kindOf y.1=some .free:=λy hy e=>by have z:=aK.mp hfree y hy;rw[e]at z;simpa using z
 have hcl:∀y∈scope.names,y.2=.free->∃c,X.env.cells.lookup y.1=some c:=λy hy e=>I.ok.has y.1 (hfree' y hy e);refine wpAny_comprehension_free rfl hs (yO hcl) hkind hloc' (thn (hi pins s σ H _ I h) λxv s₁ h₁=>thn h₁ λit s₂ h₂=>?_);obtain⟨ita,fp,tn,J,H2,e,I2,T,st2,f2,R2⟩:=h₂;subst e;obtain⟨W,⟨m0,w0⟩,turn⟩:=R2 s₂.heap.objs.size (I2.hok.fresh (aA _));refine wpAny_newObj_type (wpAny_newFunctionEnv hcell' (by intro y hy;simp at hy) (λh₁ hns₁ hsb₁=>?_) hkind);dsimp only at hns₁ hsb₁ ⊢;generalize hp:s₂.heap.push { cls:=.type "list", dict:=none,data:=.seq ([]:List aa).toArray }=hpL at hns₁ hsb₁ ⊢;have hsz:hpL.objs.size=s₂.heap.objs.size+1:=by rw[<-hp,eK]
 have I3:Inv X pins σ (upd H2 s₂.heap.objs.size (.lst [])) { s₂ with heap:=hpL }:=by rw[<-hp];exact I2.laid (t':=s₂.toks) (λb u e=>aL _ e) (aA _) ⟨bW _,[],0,.nil,bA _ rfl⟩
 have old:∀b o,hpL.get? b=some o->h₁.get? b=some o:=λb o e=>hsb₁.extBut b o (aT (aI e)) (aL _ e);have older:∀b o,s₂.heap.get? b=some o->hpL.get? b=some o:=λb o e=>by rw[<-hp];exact aL _ e
 have hfpS:∀b∈fp,b<s₂.heap.objs.size:=λb hb=>let ⟨o,e,_⟩:=T.obj _ _ st2 b hb;aI e;have sub:∀x c,(qY X.env.cells scope.names).lookup x=some c->X.env.cells.lookup x=some c:=AV scope.names [] hcl (λx c e=>by cases e);have ok':(oT X N' scope (qY X.env.cells scope.names) hpL.objs.size fp { s₂ with heap:=hpL } (upd H2 s₂.heap.objs.size (.lst []))).Ok:={
  mod:=I3.ok.mod
  kind:=hkind
  glob:=I3.ok.glob
  blt:=I3.ok.blt
  above:=aA _
  inj:=λx y c h1 h2=>I3.ok.inj x y c (sub x c h1) (sub y c h2)
  has:=λx hx=>xQ scope.names [] x (BU hcell' hx)
  cab:=λx c hf _=>ak (show false=true from hf) bc
  hd:=I3.ok.hd
  frames:=I3.ok.frames
  stk:=.inl rfl
  exf:=λb hb=>⟨(by
   show b≠hpL.objs.size;rw[hsz];exact aT (dv (hfpS b hb))),λx c e=>(f2 b hb).2.2.2.2.1 x c (sub x c e)⟩
  bs:=I3.bs
  bsz:=bw I3.ok.bsz I3.sz
  noex:=λb o e hb=>by
   rcases(f2 b hb).2.2.2.1 with z|z
   ·exact I3.ok.noex b o e z
   ·exact ak (bJ (aI e) (bw I3.ok.bsz z)) (dE _)
  exfs:=λb hb z=>(aO.mp (I3.stkSub b z)).elim (f2 b hb).2.1 (f2 b hb).2.2.1
  funs:=I3.stack
  frf:=I3.stkFree }
 have IX:Inv (oT X N' scope (qY X.env.cells scope.names) hpL.objs.size fp { s₂ with heap:=hpL } (upd H2 s₂.heap.objs.size (.lst []))) [] (qw k cap σ) (upd H2 s₂.heap.objs.size (.lst []))
   { s₂ with heap:=h₁,toks:=s₂.toks+([]:List (Str×aa)).length }:={
  ok:=ok'
  os:=rfl
  bare:=I3.bare
  base:=Un.kept old
  loc:=⟨_,hns₁,λi x v e1 e2 _=>by
   obtain⟨j,hj,hσ,hm⟩:=Ea hcap e1 e2;have hx:scope.names.lookup x=some .free:=by simpa using aK.mp hcf x hm
   have hk:=hfree' (x,.free) (mem_of_lookup hx) rfl;obtain⟨m,hn,hl⟩:=I3.loc;obtain⟨u,r,lk⟩:=hl j x v hj hσ (hk.elim (λz=>.inr (.inl z)) λz=>.inr (.inr z));refine⟨u,r,.inr ⟨yP hx,?_⟩⟩;rcases lk with ⟨z,_⟩|⟨_,c,e,o,ho,hd⟩
   ·rcases hk with y|y
    ·rw[y]at z;cases z
    ·rw[y]at z;cases z
   ·obtain⟨c',e'⟩:=xQ (cells:=X.env.cells) scope.names [] x (mem_of_lookup hx);have ec:=sub x c' e';rw[e]at ec;have ec':c=c':=bQ ec;subst ec';exact⟨c,e',o,old _ _ ho,hd⟩⟩
  cell:=λx c e=>by obtain⟨v,o,ho,hd⟩:=I3.cell x c (sub x c e);exact⟨v,o,old _ _ ho,hd⟩
  free:=I3.hok.fresh (aA _)
  freeC:=λx c e=>I3.freeC x c (sub x c e)
  pin:=λp hp=>ak (show p∈([]:List (Addr×Obj)) from hp) (by simp)
  hok:=I3.hok.kept old
  len:=by
   show (qw k cap σ).length=N'.length;rw[hlen];unfold qw;rw[aw,bO,af] }
 have stat:∀{H':Hp},(∀b∈fp,H' b=none)->∀b∈fp,zJ (oT X N' scope (qY X.env.cells scope.names) hpL.objs.size fp { s₂ with heap:=hpL } (upd H2 s₂.heap.objs.size (.lst []))) [] H' b:=λhn b hb=>⟨hn b hb,(ok'.exf b hb).1,ok'.exfs b hb,.inl hb,(ok'.exf b hb).2,λp hp=>ak (show p∈([]:List (Addr×Obj)) from hp) (by simp)⟩
 have st4:tn 0 h₁:=T.keep _ _ _ st2 λb _ o e=>old b o (older b o e);have loop:bS (model X.prog X.w) X.A (.compLoop (.ListComp elt [⟨tg,iter,ifs,0⟩] scope pos) 0 (.ref ita) (.ref s₂.heap.objs.size) (compEnvC scope (qY X.env.cells scope.names) hpL.objs.size X.env))
   (compPost (model X.prog X.w) X.A X.xe use P (.ref s₂.heap.objs.size) hpL.objs.size) { s₂ with heap:=h₁,toks:=s₂.toks+([]:List (Str×aa)).length }:=by
  refine zX (λn s'=>∃i acc H',Inv (oT X N' scope (qY X.env.cells scope.names) hpL.objs.size fp { s₂ with heap:=hpL } (upd H2 s₂.heap.objs.size (.lst []))) [] (qw k cap σ) H' s'/\tn i s'.heap/\(∀b∈fp,H' b=none)/\W i n acc H')
   ?_ m0 ⟨0,[],_,IX,st4,λb hb=>?_,w0⟩
  ·rintro n s3 ⟨i,acc,H3,I4,st3,fr3,w3⟩;rcases turn i n acc H3 w3 with ⟨stop,qn⟩|⟨go,step⟩
   ·refine thn (T.done (oT X N' scope (qY X.env.cells scope.names) hpL.objs.size fp { s₂ with heap:=hpL } (upd H2 s₂.heap.objs.size (.lst []))) rfl rfl rfl hc i [] s3 _ H3 _ I4 (stat fr3) st3 stop) λr s4 zz=>?_;obtain⟨hr,I5⟩:=zz;subst hr;obtain⟨m,hn,_⟩:=id I5.loc;have U:=I5.base;refine fin _ _ m _ _ _ hn (I3.call' (s':=s4) (ch:=fp) I5.os ⟨λb o e n hb hx=>U.keep b o e n hb hx,λb o e n hb hx=>U.slot b o e n hb hx,U.free,λb o e hx=>U.there b o e hx,U.tups,U.frzs,U.tbls⟩ I5.hok I5.bare
     λb hb=>⟨(f2 b hb).2.2.2.1,(f2 b hb).2.1,(f2 b hb).2.2.2.2.1,(f2 b hb).2.2.2.2.2⟩) (I3.fpOk (aA _) I5.free) qn
   ·refine thn (T.item (oT X N' scope (qY X.env.cells scope.names) hpL.objs.size fp { s₂ with heap:=hpL } (upd H2 s₂.heap.objs.size (.lst []))) rfl rfl rfl hc i [] s3 _ H3 _ I4 (stat fr3) st3 go) λr s4 zz=>?_;obtain⟨u,hr,h4⟩:=zz;subst hr;refine thn h4 λ_ s5 zz=>?_;obtain⟨x,H5,I5,r5,y5,st5,fr5⟩:=zz;have I5':=I5.pinned (stat fr5) (T.obj _ _ st5);have again:∀{H8:Hp} {s8:ae} {σ8:St} {acc8:List V} {m':Nat},Inv (oT X N' scope (qY X.env.cells scope.names) hpL.objs.size fp { s₂ with heap:=hpL } (upd H2 s₂.heap.objs.size (.lst []))) ([]++xJ fp s5.heap) σ8 H8 s8->σ8.drop k=(qw k cap σ).drop k->m'<n->W (i+1) m' acc8 H8->
      ∃m,m<n/\∃i acc H',Inv (oT X N' scope (qY X.env.cells scope.names) hpL.objs.size fp { s₂ with heap:=hpL } (upd H2 s₂.heap.objs.size (.lst []))) [] (qw k cap σ) H' s8/\tn i s8.heap/\(∀b∈fp,H' b=none)/\W i m acc H':=λ{H8 s8 σ8 acc8 m'} I8 hd8 hm8 w8=>by
     refine⟨m',hm8,i+1,acc8,H8,I8.unpinned.weak (IX.len.trans I8.len.symm) (λj v e=>?_),T.keep _ _ _ st5 λb hb o e=>(I8.pin (b,o) (ba _ (ba _ (rH hb e)))).1,λb hb=>?_,w8⟩
     ·have hj:=y8 e;have q:(σ8.drop k)[j - k]?=((qw k cap σ).drop k)[j - k]?:=by rw[hd8]
      rw[cU,cU,show k+(j - k)=j by omega]at q;rw[q];exact e
     ·obtain⟨o,e,d⟩:=T.obj _ _ st5 b hb;exact(I8.pin (b,o) (ba _ (ba _ (rH hb e)))).2.1
    refine bx ((body _ _ _ _ _).1 _ s5 _ H5 x u _ I5' r5 (step x H5 y5)) (λ_ s6 h6=>?_) λ_ _ f=>f.elim;obtain⟨σ6,H6,I6,hd6,q6⟩:=h6;refine bx ((body _ _ _ _ _).2.1 _ s6 σ6 H6 _ I6 q6) (λb s7 h7=>?_) λ_ _ f=>f.elim;obtain⟨H7,I7,q7⟩:=h7;cases b with
    |false=>rw[ai bc]at q7;rw[ai bc];obtain⟨m',hm',w7⟩:=q7;exact again I7 hd6 hm' w7
    |true=>rw[ag rfl]at q7;rw[ag rfl];refine bx ((body _ _ _ _ _).2.2 _ s7 σ6 H7 _ I7 q7) (λyv s8 h8=>?_) λ_ _ f=>f.elim;obtain⟨y,H8,I8,r8,acc',hp8,hl8,m',hm',w8⟩:=h8;refine bx (v7 (X:=oT X N' scope (qY X.env.cells scope.names) hpL.objs.size fp { s₂ with heap:=hpL } (upd H2 s₂.heap.objs.size (.lst []))) _ s8 σ6 H8 (.ref s₂.heap.objs.size) [y] (.ref s₂.heap.objs.size) [yv] (λ_ Hx=>Hx=upd H8 s₂.heap.objs.size (.lst (acc'++[y]))) I8 rfl (.cons r8 .nil) ⟨_,acc',y,rfl,rfl,hp8,hl8,rfl⟩) (λ_ s9 h9=>?_) λ_ _ f=>f.elim;obtain⟨_,H9,I9,_,e9⟩:=h9;subst e9;exact again I9 hd6 hm' w8
  ·have z:b≠s₂.heap.objs.size:=aT (hfpS b hb);rw[nH z];exact(f2 b hb).1
 exact codeAny_compStart_list loop (T.self _ 0 _ _ _ st4 loop)
theorem HV{k:Nat}{cap:List Nat}{g:TG}
  (hc:X.calm=true) (hi:PI X tg iter wi)
  (body:∀(cl:List (Str×Addr)) (C:Addr) (fp:List Addr) (s:ae) (H:Hp),PG (oT X N' scope cl C fp s H) tg g/\PIf (oT X N' scope cl C fp s H) ifs tt/\PE (oT X N' scope cl C fp s H) elt te)
  (hkind:scope.kind=.function:=by rfl) (hcell:(scope.names.all λy=>y.2 != .cell)=true:=by rfl)
  (hloc:(scope.names.all λy=>y.2 != .local||scope.names.lookup y.1==some .local)=true:=by rfl)
  (hfree:(scope.names.all λy=>y.2 != .free||(X.env.kindOf y.1==some .cell||X.env.kindOf y.1==some .free))=true:=by rfl)
  (hlen:N'.length=k+cap.length:=by rfl) (hcap:(N'.drop k).map some=cap.map λj=>X.N[j]?:=by rfl)
  (hcf:((N'.drop k).all λx=>scope.names.lookup x==some .free)=true:=by rfl)
  (hs:∀x,fC iter X.env x=pure x:=by intro _;rfl):
  PE X (.ListComp elt [⟨tg,iter,ifs,0⟩] scope pos) (wM wi g tt te k cap):=by
 intro pins s σ H Q I h;exact y9 hc hi body hkind hcell hloc hfree hlen hcap hcf hs I h λa C m u s4 H3 hn back fpC qn=>⟨m,hn,λh' hs'=>⟨.ref a,H3,back.turned (t':=s4.toks) (λb o hb e=>(hs'.2 b hb).trans e) fpC.1 fpC.2.1 fpC.2.2.2.1 fpC.2.2.2.2.1 fpC.2.2.2.2.2,rfl,qn⟩⟩
def Its(x:Str):It:=⟨λi _=>i<x.cps.size,λi H v H'=>H'=H/\∃c,x.cps[i]?=some c/\v=.str ⟨#[c]⟩,λi _=>i=x.cps.size⟩
theorem Ld{M:Model}{A:av}{E:aa->ae->Prop}{s:ae}{it:Addr}{c:Str}{t:Tok}{Q:Unit->ae->Prop}(hQ:Q () s):ah M A (eG tg (.ref it) (.str c t)) Q E s:=by unfold eG;cases tg<;>exact aC hQ
theorem AW{P:ar}{w:ao}{K:aj}(it:Addr)(ty:String)(x:Str)(t:Tok)
  (hW:∀A:av,A.handled=none->Walks P w A it [it] [it] x.cps.size (SignAt x) (λi h=>h.IsStrIter it ty x t i))
  (hS:∀(A:av) (i:Nat) (s:ae) (Q:aa->ae->Prop) (E:aa->ae->Prop),s.heap.IsStrIter it ty x t i->Q (.ref it) s->ah (model P w) A (pyIter (.ref it)) Q E s):
  Turn P w K tg (Its x) [it] it (λi h=>h.IsStrIter it ty x t i) where
 mem:=by simp
 obj:=λi h st b hb=>by
  have e:b=it:=by simpa using hb
  subst e;obtain⟨o,e,c,d⟩:=st;exact⟨o,e,λv z=>by rw[d]at z;cases z⟩
 keep:=λi h h' st k=>by obtain⟨o,e,r⟩:=st;exact⟨o,k it (by simp) o e,r⟩
 item:=by intro X hP hw hK hc i pins s σ H E I hf st hg;subst hP hw hK;obtain⟨f0,f1,f2,f3,f4,f5⟩:=hf it (by simp);refine(hW _ (I.ok.hd hc)).item i s _ _ hg st λv h' tk hv st' kk=>?_;obtain⟨c,t',hc',rfl⟩:=hv;have I1:Inv X pins σ H { s with heap:=h',toks:=tk }:=I.turned (λb o hb e=>kk b o (by simpa using hb) e) f0 f1 f3 f4 f5;exact⟨_,rfl,Ld ⟨.str ⟨#[c]⟩,H,I1,⟨t',rfl⟩,⟨rfl,c,hc',rfl⟩,st',λb hb=>(hf b hb).1⟩⟩
 done:=by intro X hP hw hK hc i pins s σ H E I hf st hg;subst hP hw hK;obtain⟨f0,f1,f2,f3,f4,f5⟩:=hf it (by simp);have hg':i=x.cps.size:=hg;subst hg';exact(hW _ (I.ok.hd hc)).done s _ _ st λh' tk kk=>⟨rfl,I.turned (λb o hb e=>kk b o (by simpa using hb) e) f0 f1 f3 f4 f5⟩
 self:=hS
variable{l:Expr}{tl:TE}
section
variable{X:Cx}{tg:Expr}
def OB(tl:TE):TI:=λσ H R=>tl σ H λv H1=>∃x,v=.str x/\R (Its x) H1
theorem Le(hl:PE X l tl):PI X tg l (OB tl):=by
 intro pins s σ H R I h;refine thn (hl pins s σ H _ I h) λv s1 zz=>?_;obtain⟨x,H1,I1,r1,q1⟩:=zz;obtain⟨z,e,q⟩:=q1;subst e;obtain⟨t,rfl⟩:=r1;have fp:∀b∈[s1.heap.objs.size],zJ X pins H1 b:=λb hb=>by
  have e:b=s1.heap.objs.size:=by simpa using hb
  subst e;exact I1.fpOk (aA _) (I1.hok.fresh (aA _))
 cases ha:z.cps.all (· < 128)
 ·refine wpAny_pyIter_wide ha ⟨s1.heap.objs.size,[s1.heap.objs.size],_,_,H1,rfl,I1.kept (t':=s1.toks) λb o e=>aL _ e,AW _ "str_iterator" z t (λA hA=>Walks.strWide hA _ z t) (λA i s Q E st hQ=>wpAny_pyIter_striter_wide st hQ),⟨_,bA _ rfl,rfl,rfl⟩,fp,q⟩
 ·refine wpAny_pyIter_ascii ha ⟨s1.heap.objs.size,[s1.heap.objs.size],_,_,H1,rfl,I1.kept (t':=s1.toks) λb o e=>aL _ e,AW _ "str_ascii_iterator" z t (λA hA=>Walks.strAscii hA _ z t) (λA i s Q E st hQ=>wpAny_pyIter_striter_ascii st hQ),⟨_,bA _ rfl,rfl,rfl⟩,fp,q⟩
end
section
variable{X:Cx}
theorem Eb:OpR X (aW .LtE) (λx y H Q=>∃i j,x=.str i/\y=.str j/\Q (.bl (!decide (j.cps.toList<i.cps.toList))) H):=by intro pins s σ H x y v u Q I rx ry h;obtain⟨i,j,rfl,rfl,q⟩:=h;obtain⟨t,rfl⟩:=rx;obtain⟨t',rfl⟩:=ry;exact PySem.P.le_str (n5 I q rfl)
theorem Fg(hc:X.calm=true):pD X (.builtin "all") (λxs H Q=>∃(p:Addr) (bs:List Bool),xs=[.ref p]/\SqL X.K H p (bs.map V.bl)/\Q (.bl (bs.all id)) H):=by
 intro pins s σ H xs us Q I r h;obtain⟨p,bs,rfl,hq,q⟩:=h;obtain⟨u,rfl,ru⟩:=vals1 r;cases ru;obtain⟨its,rv,pl,hz⟩:=I.list hq;have hlt:p<s.heap.objs.size:=by obtain⟨o,ho,_⟩:=pl.isList;exact aI ho
 have hl:bs.length=its.length:=by have:=rv.length;rw[af]at this;exact this
 refine call_all_walk (fB pl.isList ⟨s.heap.objs.size,_,_,_,_,_,λi=>(bs[i]?).getD true,rfl,gG (show X.A.in1.handled=none from I.ok.hd hc) _ p (aT hlt) its.toArray,⟨⟨_,bA _ rfl,rfl,rfl⟩,?_⟩,?_,λh' tk hk=>?_⟩)
 ·exact pl.isList.at λo e=>aL _ e
 ·intro i v s' Q' E' hv hQ';have hv':its[i]?=some v:=by simpa using hv
  have hi:i<its.length:=(bj.mp hv').1;have hb:(bs.map V.bl)[i]?=some (.bl (bs[i]'(by omega))):=by simp[show i<bs.length by omega]
  obtain⟨u,hu,ru⟩:=rv.get hb;rw[hv']at hu;cases hu;cases ru;refine cp ?_;have e:(bs[i]?).getD true=bs[i]'(by omega):=by simp[show i<bs.length by omega]
  rw[<-e];exact hQ'
 ·refine⟨.bl (bs.all id),H,?_,?_,q⟩
  ·exact I.kept (t':=tk) λb o e=>hk b o (by simp;exact aT (aI e)) (aL _ e)
  ·show Value.bool _=Value.bool _;congr 1;rw[aS,<- hl];rw[dB];simp only[aK,bH,id];constructor
   ·intro hh b hb;obtain⟨i,hi,rfl⟩:=dP.mp hb;have:=hh i hi;simpa [hi]using this
   ·intro hh i hi;simp only[aP hi,j8];exact hh _ (dR hi)
end
inductive Dq where
 |non|bl (b:Bool)|int (i:Int)|str (x:Str)|tup (ds:List Dq)|lst (ds:List Dq)
mutual
def Rep(K:aj)(H:Hp):Dq->V->Prop
 |.non,v=>v=.non
 |.bl b,v=>v=.bl b
 |.int i,v=>v=.int i
 |.str x,v=>v=.str x
 |.tup ds,v=>∃a xs,v=.ref a/\SqT K H a xs/\ny K H ds xs
 |.lst ds,v=>∃a xs,v=.ref a/\SqL K H a xs/\ny K H ds xs
def ny(K:aj)(H:Hp):List Dq->List V->Prop
 |[],xs=>xs=[]
 |d::ds,xs=>∃v r,xs=v::r/\Rep K H d v/\ny K H ds r
end
mutual
def eqD:Dq->Dq->Bool
 |.non,.non=>true
 |.bl a,.bl b=>a==b
 |.bl a,.int b=>(if a then 1 else 0)==b
 |.int a,.bl b=>a==(if b then 1 else 0)
 |.int a,.int b=>a==b
 |.str a,.str b=>a==b
 |.tup a,.tup b=>tm a b
 |.lst a,.lst b=>tm a b
 |_,_=>false
def tm:List Dq->List Dq->Bool
 |[],[]=>true
 |a::r,b::q=>eqD a b&&tm r q
 |_,_=>false
end
mutual
def dpt:Dq->Nat
 |.tup ds=>pN ds+1
 |.lst ds=>pN ds+1
 |_=>0
def pN:List Dq->Nat
 |[]=>0
 |d::r=>max (dpt d) (pN r)
end
mutual
theorem Fh:∀d:Dq,eqD d d=true
 |.non=>by unfold eqD;rfl
 |.bl b=>by unfold eqD;simp
 |.int i=>by unfold eqD;simp
 |.str x=>by unfold eqD;simp
 |.tup ds=>by unfold eqD;exact v8 ds
 |.lst ds=>by unfold eqD;exact v8 ds
theorem v8:∀ds:List Dq,tm ds ds=true
 |[]=>by unfold tm;rfl
 |d::r=>by unfold tm;rw[Fh d,v8 r];rfl
end
theorem nu{K:aj}{H:Hp}:∀{ds:List Dq} {xs:List V},ny K H ds xs->ds.length=xs.length
 |[],xs,h=>by unfold ny at h;subst h;rfl
 |d::ds,xs,h=>by unfold ny at h;obtain⟨v,r,rfl,_,h2⟩:=h;rw[aD,aD,nu h2]
def eAt(ds ds':List Dq)(j:Nat):Bool:=match ds[j]?,ds'[j]? with
 |some a,some b=>eqD a b
 |_,_=>true
theorem xR:∀(ds ds':List Dq),tm ds ds'=true ↔ ds.length=ds'.length/\∀j,j<ds.length->eAt ds ds' j=true
 |[],[]=>by simp[tm]
 |[],b::q=>by simp[tm]
 |a::r,[]=>by simp[tm]
 |a::r,b::q=>by
  have ih:=xR r q;unfold tm;rw[aB,ih,aD,aD];constructor
  ·rintro⟨h1,h2,h3⟩;refine⟨by omega,λj hj=>?_⟩;cases j with
   |zero=>exact h1
   |succ j=>exact h3 j (by omega)
  ·rintro⟨h1,h2⟩;exact⟨h2 0 (by omega),by omega,λj hj=>h2 (j+1) (by omega)⟩
variable{ds ds':List Dq}
theorem tp{n m:Nat}(hn:ds.length=n)(hm:ds'.length=m):((aV (min n m)).all (eAt ds ds')&&n==m)=tm ds ds':=by
 rw[dB,xR,aB,aK];subst hn hm;constructor
 ·rintro⟨h1,h2⟩;have e:ds.length=ds'.length:=by simpa using h2
  exact⟨e,λj hj=>h1 j (bH.mpr (by omega))⟩
 ·rintro⟨e,h⟩;exact⟨λj hj=>h j (by have:=bH.mp hj;omega),by simpa using e⟩
theorem uc{n:Nat}(hn:ds.length=n)(hm:ds'.length=n):(aV n).all (eAt ds ds')=tm ds ds':=by rw[<-tp hn hm];simp
theorem xS(h:ds.length≠ds'.length):tm ds ds'=false:=by
 cases e:tm ds ds' with
 |false=>rfl
 |true=>exact ak ((xR ds ds').mp e).1 h
section
variable{X:Cx}{pins:List (Addr×Obj)}{σ:St}{H:Hp}{s:ae}
theorem J2(I:Inv X pins σ H s){a:Addr}{xs ys:List V}(h:SqL X.K H a xs)(h':SqT X.K H a ys):False:=by obtain⟨its,_,p,_⟩:=I.list h;obtain⟨its',_,p',_⟩:=I.tuple h';exact SeqAt.ne_of_list_tuple p.isList (show s.heap.IsTuple a its'.toArray from p') rfl
mutual
theorem xT(I:Inv X pins σ H s):∀(d d':Dq) (v:V),Rep X.K H d v->Rep X.K H d' v->eqD d d'=true
 |.non,d',v,h,h'=>by unfold Rep at h;subst h;cases d'<;>unfold Rep at h'<;>first|rfl|(exact nomatch h')|(obtain⟨_,_,e,_⟩:=h';exact nomatch e)
 |.bl b,d',v,h,h'=>by unfold Rep at h;subst h;cases d'<;>unfold Rep at h'<;>first|(obtain⟨_,_,e,_⟩:=h';cases e)|(cases h'<;>simp[eqD])
 |.int b,d',v,h,h'=>by unfold Rep at h;subst h;cases d'<;>unfold Rep at h'<;>first|(obtain⟨_,_,e,_⟩:=h';cases e)|(cases h'<;>simp[eqD])
 |.str b,d',v,h,h'=>by unfold Rep at h;subst h;cases d'<;>unfold Rep at h'<;>first|(obtain⟨_,_,e,_⟩:=h';cases e)|(cases h'<;>simp[eqD])
 |.tup ds,d',v,h,h'=>by
  unfold Rep at h;obtain⟨a,xs,rfl,hq,hr⟩:=h;cases d' with
  |tup ds'=>unfold Rep at h';obtain⟨a',xs',e,hq',hr'⟩:=h';cases e;have ex:=I.tuple_inj hq hq';subst ex;unfold eqD;exact wa I ds ds' xs hr hr'
  |lst ds'=>unfold Rep at h';obtain⟨a',xs',e,hq',hr'⟩:=h';cases e;exact(J2 I hq' hq).elim
  |_=>unfold Rep at h';exact nomatch h'
 |.lst ds,d',v,h,h'=>by
  unfold Rep at h;obtain⟨a,xs,rfl,hq,hr⟩:=h;cases d' with
  |lst ds'=>unfold Rep at h';obtain⟨a',xs',e,hq',hr'⟩:=h';cases e;have ex:=I.list_inj hq hq';subst ex;unfold eqD;exact wa I ds ds' xs hr hr'
  |tup ds'=>unfold Rep at h';obtain⟨a',xs',e,hq',hr'⟩:=h';cases e;exact(J2 I hq hq').elim
  |_=>unfold Rep at h';exact nomatch h'
theorem wa(I:Inv X pins σ H s):∀(ds ds':List Dq) (xs:List V),ny X.K H ds xs->ny X.K H ds' xs->tm ds ds'=true
 |[],ds',xs,h,h'=>by
  unfold ny at h;subst h;cases ds' with
  |nil=>rfl
  |cons d r=>unfold ny at h';obtain⟨_,_,e,_⟩:=h';exact nomatch e
 |d::ds,ds',xs,h,h'=>by
  unfold ny at h;obtain⟨v,r,rfl,h1,h2⟩:=h;cases ds' with
  |nil=>unfold ny at h';exact nomatch h'
  |cons d' r'=>unfold ny at h';obtain⟨v',q,e,h1',h2'⟩:=h';cases e;unfold tm;rw[xT I d d' v h1 h1',wa I ds r' r h2 h2'];rfl
end
mutual
theorem Lf(I:Inv X pins σ H s):∀(d d':Dq) (x y:V) (u v:aa) (A:av),Rep X.K H d x->Rep X.K H d' y->RelV x u->RelV y v->A.units+dpt d+dpt d'<cLine->gE A s u v (eqD d d')
 |.tup ds,d',x,y,u,v,A,hx,hy,ru,rv,hu=>by
  unfold Rep at hx;obtain⟨a,xs,rfl,hq,hr⟩:=hx;cases ru;obtain⟨its,rx,p,_⟩:=I.tuple hq;have p:s.heap.IsTuple a its.toArray:=p;cases d' with
  |non=>unfold Rep at hy;subst hy;cases rv;exact mh p (by omega)
  |bl b=>unfold Rep at hy;subst hy;cases rv;exact mi b p (by omega)
  |int b=>unfold Rep at hy;subst hy;obtain⟨t,rfl⟩:=rv;exact mC b t p (by omega)
  |str b=>unfold Rep at hy;subst hy;obtain⟨t,rfl⟩:=rv;exact mD b t p (by omega)
  |lst ds'=>unfold Rep at hy;obtain⟨b,ys,rfl,hq',hr'⟩:=hy;cases rv;obtain⟨its',ry,p',_⟩:=I.list hq';exact mj p p'.isList (by omega)
  |tup ds'=>
   have hy0:=hy;unfold Rep at hy;obtain⟨b,ys,rfl,hq',hr'⟩:=hy;cases rv;obtain⟨its',ry,p',_⟩:=I.tuple hq';have p':s.heap.IsTuple b its'.toArray:=p';by_cases hab:a=b
   ·subst hab;have e:eqD (.tup ds) (.tup ds')=true:=xT I _ _ (.ref a) (by unfold Rep;exact⟨a,xs,rfl,hq,hr⟩) hy0;rw[e];exact iz _
   ·have hd:dpt (.tup ds)=pN ds+1:=by rw[dpt]
    have hd':dpt (.tup ds')=pN ds'+1:=by rw[dpt]
    have q:=m7 (A:=A) (e:=eAt ds ds') p p' (by omega) λj h1 h2=>by have z:=tu I ds ds' xs ys its its' A.in1 hr hr' rx ry (by show A.units+1+pN ds+pN ds'<cLine;omega) j (by simpa using h1) (by simpa using h2);simpa using z
    rw[tp (by rw[nu hr,rx.length];simp) (by rw[nu hr',ry.length];simp)]at q;exact ig hab (by unfold eqD;exact q)
 |.lst ds,d',x,y,u,v,A,hx,hy,ru,rv,hu=>by
  unfold Rep at hx;obtain⟨a,xs,rfl,hq,hr⟩:=hx;cases ru;obtain⟨its,rx,p,_⟩:=I.list hq;have p:=p.isList;cases d' with
  |non=>unfold Rep at hy;subst hy;cases rv;exact mE p (by omega)
  |bl b=>unfold Rep at hy;subst hy;cases rv;exact mF b p (by omega)
  |int b=>unfold Rep at hy;subst hy;obtain⟨t,rfl⟩:=rv;exact mU b t p (by omega)
  |str b=>unfold Rep at hy;subst hy;obtain⟨t,rfl⟩:=rv;exact mV b t p (by omega)
  |tup ds'=>unfold Rep at hy;obtain⟨b,ys,rfl,hq',hr'⟩:=hy;cases rv;obtain⟨its',ry,p',_⟩:=I.tuple hq';exact ml p (show s.heap.IsTuple b its'.toArray from p') (by omega)
  |lst ds'=>
   have hy0:=hy;unfold Rep at hy;obtain⟨b,ys,rfl,hq',hr'⟩:=hy;cases rv;obtain⟨its',ry,p',_⟩:=I.list hq';have p':=p'.isList;by_cases hab:a=b
   ·subst hab;have e:eqD (.lst ds) (.lst ds')=true:=xT I _ _ (.ref a) (by unfold Rep;exact⟨a,xs,rfl,hq,hr⟩) hy0;rw[e];exact iz _
   ·have hd:dpt (.lst ds)=pN ds+1:=by rw[dpt]
    have hd':dpt (.lst ds')=pN ds'+1:=by rw[dpt]
    by_cases hl:its.length=its'.length
    ·have q:=m8 (A:=A) (e:=eAt ds ds') p p' (by simpa using hl) (by omega) λj h1 h2=>by have z:=tu I ds ds' xs ys its its' A.in1 hr hr' rx ry (by show A.units+1+pN ds+pN ds'<cLine;omega) j (by simpa using h1) (by simpa using h2);simpa using z
     rw[uc (by rw[nu hr,rx.length];simp) (by rw[nu hr',ry.length,<- hl];simp)]at q;exact ig hab (by unfold eqD;exact q)
    ·have e:eqD (.lst ds) (.lst ds')=false:=by unfold eqD;exact xS (by rw[nu hr,nu hr',rx.length,ry.length];exact hl)
     rw[e];exact ig hab (md p p' (by simpa using hl) (by omega))
 |.non,d',x,y,u,v,A,hx,hy,ru,rv,hu=>by
  unfold Rep at hx;subst hx;cases d' with
  |tup ds'=>unfold Rep at hy;obtain⟨b,ys,rfl,hq',hr'⟩:=hy;cases rv;cases ru;obtain⟨its',ry,p',_⟩:=I.tuple hq';exact mm (show s.heap.IsTuple b its'.toArray from p') (by omega)
  |lst ds'=>unfold Rep at hy;obtain⟨b,ys,rfl,hq',hr'⟩:=hy;cases rv;cases ru;obtain⟨its',ry,p',_⟩:=I.list hq';exact mG p'.isList (by omega)
  |_=>unfold Rep at hy;subst hy;exact xN ru rv rfl rfl
 |.bl c,d',x,y,u,v,A,hx,hy,ru,rv,hu=>by
  unfold Rep at hx;subst hx;cases d' with
  |tup ds'=>unfold Rep at hy;obtain⟨b,ys,rfl,hq',hr'⟩:=hy;cases rv;cases ru;obtain⟨its',ry,p',_⟩:=I.tuple hq';exact mr c (show s.heap.IsTuple b its'.toArray from p') (by omega)
  |lst ds'=>unfold Rep at hy;obtain⟨b,ys,rfl,hq',hr'⟩:=hy;cases rv;cases ru;obtain⟨its',ry,p',_⟩:=I.list hq';exact mH c p'.isList (by omega)
  |_=>unfold Rep at hy;subst hy;exact xN ru rv rfl rfl
 |.int c,d',x,y,u,v,A,hx,hy,ru,rv,hu=>by
  unfold Rep at hx;subst hx;cases d' with
  |tup ds'=>unfold Rep at hy;obtain⟨b,ys,rfl,hq',hr'⟩:=hy;cases rv;obtain⟨t,rfl⟩:=ru;obtain⟨its',ry,p',_⟩:=I.tuple hq';exact mI c t (show s.heap.IsTuple b its'.toArray from p') (by omega)
  |lst ds'=>unfold Rep at hy;obtain⟨b,ys,rfl,hq',hr'⟩:=hy;cases rv;obtain⟨t,rfl⟩:=ru;obtain⟨its',ry,p',_⟩:=I.list hq';exact mW c t p'.isList (by omega)
  |_=>unfold Rep at hy;subst hy;exact xN ru rv rfl rfl
 |.str c,d',x,y,u,v,A,hx,hy,ru,rv,hu=>by
  unfold Rep at hx;subst hx;cases d' with
  |tup ds'=>unfold Rep at hy;obtain⟨b,ys,rfl,hq',hr'⟩:=hy;cases rv;obtain⟨t,rfl⟩:=ru;obtain⟨its',ry,p',_⟩:=I.tuple hq';exact mJ c t (show s.heap.IsTuple b its'.toArray from p') (by omega)
  |lst ds'=>unfold Rep at hy;obtain⟨b,ys,rfl,hq',hr'⟩:=hy;cases rv;obtain⟨t,rfl⟩:=ru;obtain⟨its',ry,p',_⟩:=I.list hq';exact mX c t p'.isList (by omega)
  |_=>unfold Rep at hy;subst hy;exact xN ru rv rfl rfl
theorem tu(I:Inv X pins σ H s):∀(ds ds':List Dq) (xs ys:List V) (us vs:List aa) (A:av),ny X.K H ds xs->ny X.K H ds' ys->Vals xs us->Vals ys vs->A.units+pN ds+pN ds'<cLine->
  ∀(j:Nat) (h1:j<us.length) (h2:j<vs.length),gE A s us[j] vs[j] (eAt ds ds' j)
 |[],ds',xs,ys,us,vs,A,hx,hy,ru,rv,hu,j,h1,h2=>by
  have:=nu hx;have:=ru.length;simp only[b8]at *
  omega
 |d::ds,[],xs,ys,us,vs,A,hx,hy,ru,rv,hu,j,h1,h2=>by
  have:=nu hy;have:=rv.length;simp only[b8]at *
  omega
 |d::ds,d'::ds',xs,ys,us,vs,A,hx,hy,ru,rv,hu,j,h1,h2=>by
  unfold ny at hx hy;obtain⟨x,xr,rfl,hx1,hx2⟩:=hx;obtain⟨y,yr,rfl,hy1,hy2⟩:=hy;have e1:pN (d::ds)=max (dpt d) (pN ds):=by rw[pN]
  have e2:pN (d'::ds')=max (dpt d') (pN ds'):=by rw[pN]
  cases ru with
  |cons r1 r2=>
   cases rv with
   |cons q1 q2=>
    cases j with
    |zero=>exact Lf I d d' x y _ _ A hx1 hy1 r1 q1 (by omega)
    |succ j=>exact tu I ds ds' xr yr _ _ A hx2 hy2 r2 q2 (by omega) j (by simpa using h1) (by simpa using h2)
end
def J3:Dq->Dq->Bool
 |.tup _,.tup _=>true
 |.lst _,.lst _=>true
 |_,_=>false
def BV(K:aj)(neg:Bool):R2:=λx y H Q=>∃d d',Rep K H d x/\Rep K H d' y/\J3 d d'=true/\dpt d<=20/\dpt d'<=20/\Q (.bl (if neg then !eqD d d' else eqD d d')) H
theorem Lg(hu:X.A.units+64<cLine):OpR X (aW .Eq) (BV X.K false):=by
 intro pins s σ H x y u v Q I ru rv h;obtain⟨d,d',hx,hy,hd,h1,h2,q⟩:=h;cases d with
 |tup ds=>
  cases d' with
  |tup ds'=>
   have hd1:dpt (.tup ds)=pN ds+1:=by rw[dpt]
   have hd2:dpt (.tup ds')=pN ds'+1:=by rw[dpt]
   unfold Rep at hx hy;obtain⟨a,xs,rfl,hq,hr⟩:=hx;obtain⟨b,ys,rfl,hq',hr'⟩:=hy;cases ru;cases rv;obtain⟨its,rx,p,_⟩:=I.tuple hq;obtain⟨its',ry,p',_⟩:=I.tuple hq';refine SeqAt.eq_tupleAt (e:=eAt ds ds') (show s.heap.IsTuple a its.toArray from p) (show s.heap.IsTuple b its'.toArray from p') (by omega) (λj h1 h2=>?_) ?_
   ·have z:=tu I ds ds' xs ys its its' X.A.in1 hr hr' rx ry (by show X.A.units+1+pN ds+pN ds'<cLine;omega) j (by simpa using h1) (by simpa using h2);simpa using z
   ·rw[tp (by rw[nu hr,rx.length];simp) (by rw[nu hr',ry.length];simp)];unfold eqD at q;exact n5 I q rfl
  |_=>exact nomatch hd
 |lst ds=>
  cases d' with
  |lst ds'=>
   have hd1:dpt (.lst ds)=pN ds+1:=by rw[dpt]
   have hd2:dpt (.lst ds')=pN ds'+1:=by rw[dpt]
   unfold Rep at hx hy;obtain⟨a,xs,rfl,hq,hr⟩:=hx;obtain⟨b,ys,rfl,hq',hr'⟩:=hy;cases ru;cases rv;obtain⟨its,rx,p,_⟩:=I.list hq;obtain⟨its',ry,p',_⟩:=I.list hq';by_cases hl:its.length=its'.length
   ·refine SeqAt.eq_listAt (e:=eAt ds ds') p.isList p'.isList (by simpa using hl) (by omega) (λj h1 h2=>?_) ?_
    ·have z:=tu I ds ds' xs ys its its' X.A.in1 hr hr' rx ry (by show X.A.units+1+pN ds+pN ds'<cLine;omega) j (by simpa using h1) (by simpa using h2);simpa using z
    ·rw[uc (by rw[nu hr,rx.length];simp) (by rw[nu hr',ry.length,<- hl];simp)];unfold eqD at q;exact n5 I q rfl
   ·refine SeqAt.eq_list_lengthsAt p.isList p'.isList (by simpa using hl) (by omega) ?_;have e:tm ds ds'=false:=xS (by rw[nu hr,nu hr',rx.length,ry.length];exact hl);unfold eqD at q;rw[e]at q;exact n5 I q rfl
  |_=>exact nomatch hd
 |_=>exact nomatch hd
theorem Lh(hu:X.A.units+64<cLine):OpR X (aW .NotEq) (BV X.K true):=by
 intro pins s σ H x y u v Q I ru rv h;obtain⟨d,d',hx,hy,hd,h1,h2,q⟩:=h;cases d with
 |tup ds=>
  cases d' with
  |tup ds'=>
   have hd1:dpt (.tup ds)=pN ds+1:=by rw[dpt]
   have hd2:dpt (.tup ds')=pN ds'+1:=by rw[dpt]
   unfold Rep at hx hy;obtain⟨a,xs,rfl,hq,hr⟩:=hx;obtain⟨b,ys,rfl,hq',hr'⟩:=hy;cases ru;cases rv;obtain⟨its,rx,p,_⟩:=I.tuple hq;obtain⟨its',ry,p',_⟩:=I.tuple hq';have w:=mY (A:=X.A) (e:=eAt ds ds') (show s.heap.IsTuple a its.toArray from p) (show s.heap.IsTuple b its'.toArray from p') (by omega) (λj h1 h2=>by
    have z:=tu I ds ds' xs ys its its' X.A.in1 hr hr' rx ry (by show X.A.units+1+pN ds+pN ds'<cLine;omega) j (by simpa using h1) (by simpa using h2);simpa using z)
   rw[tp (by rw[nu hr,rx.length];simp) (by rw[nu hr',ry.length];simp)]at w;unfold eqD at q;exact w X.prog X.w X.xe _ (n5 I q rfl)
  |_=>exact nomatch hd
 |lst ds=>
  cases d' with
  |lst ds'=>
   have hd1:dpt (.lst ds)=pN ds+1:=by rw[dpt]
   have hd2:dpt (.lst ds')=pN ds'+1:=by rw[dpt]
   unfold Rep at hx hy;obtain⟨a,xs,rfl,hq,hr⟩:=hx;obtain⟨b,ys,rfl,hq',hr'⟩:=hy;cases ru;cases rv;obtain⟨its,rx,p,_⟩:=I.list hq;obtain⟨its',ry,p',_⟩:=I.list hq';by_cases hl:its.length=its'.length
   ·have w:=m5 (A:=X.A) (e:=eAt ds ds') p.isList p'.isList (by simpa using hl) (by omega) (λj h1 h2=>by
     have z:=tu I ds ds' xs ys its its' X.A.in1 hr hr' rx ry (by show X.A.units+1+pN ds+pN ds'<cLine;omega) j (by simpa using h1) (by simpa using h2);simpa using z)
    rw[uc (by rw[nu hr,rx.length];simp) (by rw[nu hr',ry.length,<- hl];simp)]at w;unfold eqD at q;exact w X.prog X.w X.xe _ (n5 I q rfl)
   ·have e:tm ds ds'=false:=xS (by rw[nu hr,nu hr',rx.length,ry.length];exact hl);unfold eqD at q;rw[e]at q;exact lC p.isList p'.isList (by simpa using hl) (by omega) X.prog X.w X.xe _ (n5 I q rfl)
  |_=>exact nomatch hd
 |_=>exact nomatch hd
end
inductive StrsAre:List Expr->List V->Prop
 |nil:StrsAre [] []
 |cons {x:Str} {j:Nat} {pos:Pos} {es:List Expr} {vs:List V} (h:StrsAre es vs):StrsAre (.Constant (.str x) j pos::es) (.str x::vs)
theorem qM{n:Nat}(h:n<=1000):n<=ay:=gr (uG h)
theorem nE.new{p:Addr}{H H1:Hp}(x:nE H H1)(hp:H1 p=none)(o:HO):nE H (upd H1 p o):=λb u e=>by have z:=x b u e;rw[nH (o3 z hp)];exact z
structure Ec(K:aj)(x qual:Str)(st:Stmt)(f:Addr)(fd:bo)(T:Addr):Prop where
 ex:∃(oc:aa) (od:Option Addr) (kV doc pm:aa) (an:Option Addr) (cdv ct:aa) (osl:Array (Option aa)),
  fd=dh x qual (qv st) (nV st) (nG st) (.ref T) kV doc pm an cdv ct/\K.lookup f=some ⟨oc,od,.func fd,osl⟩/\eW K cdv qual=true
 kp:cG K (.ref f)=true
variable{qual:Str}{f T:Addr}{fd:bo}{ps:List Str}
section
variable{P:ar}{w:ao}{K:aj}{mg:Str->Option aa}{base:Heap}
theorem Ec.ok{st:Stmt}{k:Nat}{sp:Sp}(F:Ec K x qual st f fd T)(S:oX N ps (nG st))(len:∀vs H Q E,sp vs H Q E->vs.length=ps.length)
  (hbody:∀(cdv:aa) (A:av) (outer:List Env) (s:ae) (H:Hp) (vs:List V) (Q:VK) (E:XK),oQ k (A.deeper (envOfC qual (nG st) s.heap.objs.size f cdv))->sp vs H Q E->
   ∃t,PSs (zM CX0 P w K mg base N qual (nG st) f cdv A outer s H E).nox (nV st) t/\t { nx:=λ_ H'=>Q .non H',rt:=Q } (L2.start N vs) H):qu P w K mg base CX0 (k+1) f fd ps sp:=by
 obtain⟨oc,od,kV,doc,pm,an,cdv,ct,osl,rfl,lk,hcd⟩:=F.ex;refine AM lk hcd S len λA outer s H vs Q E hr hsp=>?_;obtain⟨t,h,q⟩:=hbody cdv A outer s H vs Q E hr hsp;exact⟨t,h.nox,q⟩
end
theorem Ec.binds{K:aj}{st:Stmt}{ds:List aa}{o:Obj}{items:Array aa}{n:Nat}(F:Ec K x qual st f fd T)(ho:K.lookup T=some o)(hs:o.data=.seq items n)
  (h:∀(kV doc pm:aa) (an:Option Addr) (cdv ct:aa) (us:List aa),us.length=ps.length - ds.length->∃k,bindArgs (dh x qual (qv st) (nV st) (nG st) (.ref T) kV doc pm an cdv ct) ⟨us,[]⟩=seqItems? (.ref T)>>=k/\k (some items)=pure (ps.zip (us++ds))):Binds K fd ps ds:=by
 obtain⟨oc,od,kV,doc,pm,an,cdv,ct,osl,rfl,lk,hcd⟩:=F.ex;intro s us KX hl;obtain⟨k,h1,h2⟩:=h kV doc pm an cdv ct us (by rw[aw]at hl;omega);exact BindsTo.of_defaults (k:=k) rfl (KX _ _ ho) hs h1 h2
section
variable{X:Cx}(K:aj)
theorem Fi(hK:X.K=K:=by rfl):IxR X (HJ K):=by subst hK;exact CJ
theorem AX(hl:PE X l tl)(hK:X.K=K:=by rfl):PI X tg l (EU K tl):=by subst hK;exact Ht hl
theorem HW(hl:PE X l tl)(hK:X.K=K:=by rfl):PI X tg l (KN K tl):=by subst hK;exact KO hl
theorem HX{es:List Expr}{k:Nat}{t:TGs}{n:Nat}(hc:X.calm=true)(h:PGs X es t)(hn:(bR es X.env).length=n:=by rfl)(hst:(bR es X.env).findIdx? (·.1)=none:=by rfl)(hK:X.K=K:=by rfl):PG X (.Tuple es k pos) (KI K n t):=by subst hK;exact KJ hc h hn hst
variable{o e:Expr}{es:List Expr}{to:TE}{t:TA}{name:Str}{apos cpos:Pos}{T id:String}{r:V->List V->Hp->VK->Prop}
theorem Fj(pa:i5 T)(slot:Slot T name id)(hty:typeOf (.builtin id)=pure (.type "method_descriptor"))(hm:MtR X id r)(ho:PE X o to)(ha:PA X (e::es) t)
  (hbase:dZ o name X.env (eval o X.env)=eval o X.env:=by rfl)
  (hfew:((aX cpos (aq (e::es) X.env)).all (λx=>!x.1)&&(backToKw cpos (df [] X.env)).all (λx=>x.1.isSome)
   && decide ((e::es).length+([]:List eY).length+(if ([]:List eY).isEmpty then 0 else 1)<30))=true:=by rfl)
  (hline:(apos.endLine==cpos.line)=true:=by rfl) (hs:aq (e::es) X.env=(false,eval e X.env)::aq es X.env:=by rfl) (hplain:(aX cpos (aq es X.env)).any (·.1)=false:=by rfl) (hK:X.K=K:=by rfl):
  PE X (.Call (.Attribute o name apos) (e::es) [] cpos) (tBM K T r to t):=by subst hK;exact Ox pa slot hty hm ho ha hbase hfew hline hs hplain
end
end L3
namespace L2
open PySem PySem.Spec PyProof.Rows
variable{a:Addr}
section
variable{X:Cx}{pins:List (Addr×Obj)}{σ:St}{H:Hp}{s:ae}
theorem sH{H:Hp}{c:Addr}{u v:HO}(e:H a=some u)(q:H c=some v)(d:u≠v)(n:HO):upd H a n c=some v:=by rw[nH (λz=>by subst z;rw[e]at q;exact d (bQ q))];exact q
theorem Inv.freeze{kvs:List (Key×V)}(I:Inv X pins σ H s)(e:H a=some (.dK kvs)):∃o,Inv X pins σ (upd H a (.frz o (.dK kvs))) s:=by
 obtain⟨z,y,vs,r,ob,es,ep,e1,c⟩:=(show oP X.prog X.w H s.heap a (.dK kvs) from I.hok a _ e);refine⟨ob,?_⟩;have I':=I.step (H':=upd H a (.frz ob (.dK kvs))) (h':=s.heap) (g':=s.gens) (d':=s.drawn) (t':=s.toks) (ch:=[]) (λ_ z=>nomatch z) (λb o _ _ _ q _=>q) (λb o _ _ _ q _=>⟨o.slots,q⟩)
  (λb o _ _ n=>by rw[nH (λz=>by subst z;rw[e]at n;cases n)];exact n) (λb o _ q=>⟨o,q⟩) (λb xs q=>sH e q (λz=>nomatch z) _) (λb o u q=>sH e q (λz=>nomatch z) _)
  (λb ps q=>⟨#[],by rw[sH e q (λz=>nomatch z) _];simp⟩) (λm q=>q) ?_ I.bare
 ·obtain⟨h,g,d,t,os⟩:=s;exact I'
 ·intro b u q;have st:∀{b:Addr} {u:HO},oP X.prog X.w H s.heap b u->oP X.prog X.w (upd H a (.frz ob (.dK kvs))) s.heap b u:=λ{b u} x=>x.stay (λ_ _ _ q=>q) (λc q=>sH e q (λz=>nomatch z) _) λc xs q=>sH e q (λz=>nomatch z) _
  by_cases hb:b=a
  ·subst hb;rw[nI]at q;cases q;exact⟨e1,st (I.hok b _ e)⟩
  ·rw[nH hb]at q;exact st (I.hok b u q)
theorem PE.ghost{e:Expr}{t:TE}(h:PE X e t):PE X e (λσ H Q=>t σ H λx H1=>Q x H1\/∃a kvs,H1 a=some (.dK kvs)/\∀o,Q x (upd H1 a (.frz o (.dK kvs)))):=λpins s σ H Q I hq=>
 thn (h pins s σ H _ I hq) λu s1 ⟨x,H1,I1,r1,q1⟩=>by
  rcases q1 with q|⟨a,kvs,e,q⟩
  ·exact⟨x,H1,I1,r1,q⟩
  ·obtain⟨o,I2⟩:=I1.freeze e;exact⟨x,_,I2,r1,q o⟩
end
end L2
namespace L4
open PySem PySem.Spec PyProof.Rows L2 L3
abbrev St:=L2.St
inductive D where
 |non|bl (b:Bool)|int (i:Int)|str (x:Str)
 |tup (ds:List D)|lst (ds:List D)
 |fzl (ds:List D)
 |obj (c:Nat) (ns:List Str) (ds:List D)
 |dic (ks:List Key) (ds:List D)
structure Bg where
 K:aj
 ca:Nat->Addr
mutual
def Rep(G:Bg)(H:Hp):D->V->Prop
 |.non,v=>v=.non
 |.bl b,v=>v=.bl b
 |.int i,v=>v=.int i
 |.str x,v=>v=.str x
 |.tup ds,v=>∃a xs,v=.ref a/\SqT G.K H a xs/\ny G H ds xs
 |.lst ds,v=>∃a xs,v=.ref a/\H a=some (.lst xs)/\ny G H ds xs
 |.fzl ds,v=>∃a xs,v=.ref a/\SqL G.K H a xs/\ny G H ds xs
 |.obj c ns ds,v=>∃a dx xs,v=.ref a/\H a=some (.ins (G.ca c) dx (ns.zip xs))/\ns.length=xs.length/\ny G H ds xs
 |.dic ks ds,v=>∃a o xs,v=.ref a/\H a=some (.frz o (.dK (ks.zip xs)))/\ks.length=xs.length/\ny G H ds xs
def ny(G:Bg)(H:Hp):List D->List V->Prop
 |[],xs=>xs=[]
 |d::ds,xs=>∃v r,xs=v::r/\Rep G H d v/\ny G H ds r
end
variable{H':Hp}{a:Addr}{xs:List V}
theorem SqT.mono{K:aj}{H:Hp}(e:nE H H')(h:SqT K H a xs):SqT K H' a xs:=by
 rcases h with (h|⟨o,h⟩)|h
 ·exact .inl (.inl (e _ _ h))
 ·exact .inl (.inr ⟨o,e _ _ h⟩)
 ·exact .inr h
mutual
theorem Rep.mono{G:Bg}{H H':Hp}(e:nE H H'):∀(d:D) (v:V),Rep G H d v->Rep G H' d v
 |.non,v,h=>by unfold Rep at h ⊢;exact h
 |.bl b,v,h=>by unfold Rep at h ⊢;exact h
 |.int i,v,h=>by unfold Rep at h ⊢;exact h
 |.str x,v,h=>by unfold Rep at h ⊢;exact h
 |.tup ds,v,h=>by unfold Rep at h ⊢;obtain⟨a,xs,rfl,h1,h2⟩:=h;exact⟨a,xs,rfl,SqT.mono e h1,ny.mono e ds xs h2⟩
 |.lst ds,v,h=>by unfold Rep at h ⊢;obtain⟨a,xs,rfl,h1,h2⟩:=h;exact⟨a,xs,rfl,e _ _ h1,ny.mono e ds xs h2⟩
 |.fzl ds,v,h=>by unfold Rep at h ⊢;obtain⟨a,xs,rfl,h1,h2⟩:=h;exact⟨a,xs,rfl,e.seq h1,ny.mono e ds xs h2⟩
 |.obj c ns ds,v,h=>by unfold Rep at h ⊢;obtain⟨a,dx,xs,rfl,h1,h2,h3⟩:=h;exact⟨a,dx,xs,rfl,e _ _ h1,h2,ny.mono e ds xs h3⟩
 |.dic ks ds,v,h=>by unfold Rep at h ⊢;obtain⟨a,o,xs,rfl,h1,h2,h3⟩:=h;exact⟨a,o,xs,rfl,e _ _ h1,h2,ny.mono e ds xs h3⟩
theorem ny.mono{G:Bg}{H H':Hp}(e:nE H H'):∀(ds:List D) (xs:List V),ny G H ds xs->ny G H' ds xs
 |[],xs,h=>by unfold ny at h ⊢;exact h
 |d::ds,xs,h=>by unfold ny at h ⊢;obtain⟨v,r,rfl,h1,h2⟩:=h;exact⟨v,r,rfl,Rep.mono e d v h1,ny.mono e ds r h2⟩
end
variable{d:D}{ds:List D}
section
variable{G:Bg}{H:Hp}
theorem nY:ny G H [] []:=by unfold ny;rfl
theorem n9{v:V}(h:Rep G H d v)(r:ny G H ds xs):ny G H (d::ds) (v::xs):=by unfold ny;exact⟨v,xs,rfl,h,r⟩
theorem nu:∀{ds:List D} {xs:List V},ny G H ds xs->ds.length=xs.length
 |[],xs,h=>by unfold ny at h;subst h;rfl
 |d::ds,xs,h=>by unfold ny at h;obtain⟨v,r,rfl,_,h2⟩:=h;rw[aD,aD,nu h2]
theorem o9:∀{ds es:List D} {xs ys:List V},ny G H ds xs->ny G H es ys->ny G H (ds++es) (xs++ys)
 |[],es,xs,ys,h,h'=>by unfold ny at h;subst h;exact h'
 |d::ds,es,xs,ys,h,h'=>by unfold ny at h;obtain⟨v,r,rfl,h1,h2⟩:=h;exact n9 h1 (o9 h2 h')
theorem qx:∀{ds:List D} {xs:List V} {i:Nat} {d:D},ny G H ds xs->ds[i]?=some d->∃v,xs[i]?=some v/\Rep G H d v
 |[],xs,i,d,h,e=>by simp at e
 |d'::ds,xs,i,d,h,e=>by
  unfold ny at h;obtain⟨v,r,rfl,h1,h2⟩:=h;cases i with
  |zero=>simp at e;subst e;exact⟨v,rfl,h1⟩
  |succ i=>simpa using qx (i:=i) (d:=d) h2 (by simpa using e)
theorem xU:∀{ds:List D} {xs:List V} (i:Nat) {d:D} {v:V},ny G H ds xs->Rep G H d v->ny G H (ds.set i d) (xs.set i v)
 |[],xs,i,d,v,h,e=>by unfold ny at h;subst h;exact nY
 |d'::ds,xs,i,d,v,h,e=>by
  unfold ny at h;obtain⟨v',r,rfl,h1,h2⟩:=h;cases i with
  |zero=>exact n9 e h2
  |succ i=>exact n9 h1 (xU i h2 e)
theorem za:∀{ds:List D} {xs:List V} (n:Nat),ny G H ds xs->ny G H (ds.drop n) (xs.drop n)
 |ds,xs,0,h=>h
 |[],xs,n+1,h=>by unfold ny at h;subst h;exact nY
 |d::ds,xs,n+1,h=>by unfold ny at h;obtain⟨v,r,rfl,h1,h2⟩:=h;exact za n h2
theorem zb:∀{ds:List D} {xs:List V} (n:Nat),ny G H ds xs->ny G H (ds.take n) (xs.take n)
 |ds,xs,0,h=>nY
 |[],xs,n+1,h=>by unfold ny at h;subst h;exact nY
 |d::ds,xs,n+1,h=>by unfold ny at h;obtain⟨v,r,rfl,h1,h2⟩:=h;exact n9 h1 (zb n h2)
theorem zY(h:SqT G.K H a xs)(r:ny G H ds xs):Rep G H (.tup ds) (.ref a):=by unfold Rep;exact⟨a,xs,rfl,h,r⟩
theorem r9(h:H a=some (.lst xs))(r:ny G H ds xs):Rep G H (.lst ds) (.ref a):=by unfold Rep;exact⟨a,xs,rfl,h,r⟩
theorem o8(i:Int):Rep G H (.int i) (.int i):=by unfold Rep;rfl
theorem qh(i:Bool):Rep G H (.bl i) (.bl i):=by unfold Rep;rfl
theorem vA(i:Str):Rep G H (.str i) (.str i):=by unfold Rep;rfl
theorem vB:Rep G H .non .non:=by unfold Rep;rfl
end
inductive Sl where
 |un
 |im (d:D)
 |ls (ds:List D)
 |pm (ds:List D)
 |dk (ks:List Key) (ds:List D)
 |ob (c:Nat) (ns:List Str) (ds:List D)
def Sl.own:Sl->Bool
 |.ls _=>true
 |.pm _=>true
 |.dk _ _=>true
 |.ob _ _ _=>true
 |_=>false
structure Fr where
 B0:Hp
 B:Hp
 A:List Addr
def yQ(G:Bg)(F:Fr)(H0 H:Hp)(o:Option V):Sl->Prop
 |.un=>True
 |.im d=>∃v,o=some v/\Rep G H0 d v
 |.ls ds=>∃a xs,o=some (.ref a)/\H a=some (.lst xs)/\H0 a=none/\F.B a=none/\ny G H0 ds xs
 |.pm ds=>∃a xs,o=some (.ref a)/\H a=some (.lst xs)/\H0 a=none/\a∈F.A/\ny G H0 ds xs
 |.dk ks ds=>∃a xs,o=some (.ref a)/\H a=some (.dK (ks.zip xs))/\H0 a=none/\F.B a=none/\ks.length=xs.length/\ny G H0 ds xs
 |.ob c ns ds=>∃a dx xs,o=some (.ref a)/\H a=some (.ins (G.ca c) dx (ns.zip xs))/\H0 a=none/\a∈F.A/\ns.length=xs.length/\ny G H0 ds xs
structure nM(G:Bg)(F:Fr)(σ:St)(ρ:List Sl)(H0 H:Hp):Prop where
 sub:nE H0 H
 g0:nE F.B0 H0
 keep:∀b o,F.B b=some o->b∉F.A->H b=some o
 fr:∀b o,H0 b=some o->F.B0 b=some o\/F.B b=none
 am:∀a∈F.A,∃o,H a=some o
 len:σ.length=ρ.length
 sl:∀(i:Nat) (s:Sl),ρ[i]?=some s->yQ G F H0 H (σ[i]?).join s
 ap:∀(i j:Nat) (s t:Sl) (a:Addr),i≠j->ρ[i]?=some s->ρ[j]?=some t->s.own=true->t.own=true->(σ[i]?).join=some (.ref a)->(σ[j]?).join=some (.ref a)->False
variable{G:Bg}{F:Fr}{H0:Hp}
theorem yQ.at{H:Hp}{o:Option V}{s:Sl}(h:yQ G F H0 H o s)(e:s.own=true):∃a u,o=some (.ref a)/\H a=some u/\H0 a=none/\(F.B a=none\/a∈F.A):=by
 cases s with
 |un=>cases e
 |im d=>cases e
 |ls ds=>obtain⟨a,xs,h1,h2,h3,h4,_⟩:=h;exact⟨a,_,h1,h2,h3,.inl h4⟩
 |pm ds=>obtain⟨a,xs,h1,h2,h3,h4,_⟩:=h;exact⟨a,_,h1,h2,h3,.inr h4⟩
 |dk ks ds=>obtain⟨a,xs,h1,h2,h3,h4,_⟩:=h;exact⟨a,_,h1,h2,h3,.inl h4⟩
 |ob c ns ds=>obtain⟨a,dx,xs,h1,h2,h3,h4,_⟩:=h;exact⟨a,_,h1,h2,h3,.inr h4⟩
variable{H0':Hp}
theorem yQ.grow{H:Hp}{o:Option V}{s:Sl}(h:yQ G F H0 H o s)(h0:nE H0 H0')(hk:∀a u,o=some (.ref a)->s.own=true->H a=some u->H' a=some u)
  (hn:∀a u,o=some (.ref a)->s.own=true->H a=some u->H0 a=none->H0' a=none):yQ G F H0' H' o s:=by
 cases s with
 |un=>trivial
 |im d=>obtain⟨v,h1,h2⟩:=h;exact⟨v,h1,Rep.mono h0 _ _ h2⟩
 |ls ds=>obtain⟨a,xs,h1,h2,h3,h4,h5⟩:=h;exact⟨a,xs,h1,hk _ _ h1 rfl h2,hn _ _ h1 rfl h2 h3,h4,ny.mono h0 _ _ h5⟩
 |pm ds=>obtain⟨a,xs,h1,h2,h3,h4,h5⟩:=h;exact⟨a,xs,h1,hk _ _ h1 rfl h2,hn _ _ h1 rfl h2 h3,h4,ny.mono h0 _ _ h5⟩
 |dk ks ds=>obtain⟨a,xs,h1,h2,h3,h4,h5,h6⟩:=h;exact⟨a,xs,h1,hk _ _ h1 rfl h2,hn _ _ h1 rfl h2 h3,h4,h5,ny.mono h0 _ _ h6⟩
 |ob c ns ds=>obtain⟨a,dx,xs,h1,h2,h3,h4,h5,h6⟩:=h;exact⟨a,dx,xs,h1,hk _ _ h1 rfl h2,hn _ _ h1 rfl h2 h3,h4,h5,ny.mono h0 _ _ h6⟩
variable{p:Addr}{i j:Nat}
section
variable{G:Bg}{F:Fr}{σ:St}{ρ:List Sl}{H0 H H0' H':Hp}
theorem nM.bNone(R:nM G F σ ρ H0 H){b:Addr}(h:H b=none):F.B b=none:=by
 cases e:F.B b with
 |none=>rfl
 |some o=>
  by_cases ha:b∈F.A
  ·obtain⟨xs,q⟩:=R.am b ha;rw[q]at h;cases h
  ·have q:=R.keep b o e ha;rw[q]at h;cases h
theorem nM.grow(R:nM G F σ ρ H0 H)(hs:nE H H')(h0:nE H0 H0')(sub':nE H0' H')(hf:∀b o,H0' b=some o->H0 b=some o\/H b=none):nM G F σ ρ H0' H' where
 sub:=sub'
 g0:=R.g0.trans h0
 keep:=λb o e n=>hs _ _ (R.keep b o e n)
 fr:=λb o e=>by
  rcases hf b o e with q|q
  ·exact R.fr b o q
  ·exact .inr (R.bNone q)
 am:=λa ha=>let ⟨xs,q⟩:=R.am a ha;⟨xs,hs _ _ q⟩
 len:=R.len
 sl:=λi s e=>(R.sl i s e).grow h0 (λa u _ _ q=>hs _ _ q) λa u _ _ q q0=>by
  cases z:H0' a with
  |none=>rfl
  |some o=>
   rcases hf a o z with y|y
   ·rw[y]at q0;cases q0
   ·rw[y]at q;cases q
 ap:=R.ap
theorem nQ{H:Hp}(hp:H p=none)(o:HO):nE H (upd H p o):=nE.new (nE.refl H) hp o
theorem nM.h0none(R:nM G F σ ρ H0 H)(hp:H p=none):H0 p=none:=by
 cases e:H0 p with
 |none=>rfl
 |some o=>have:=R.sub _ _ e;rw[this]at hp;cases hp
theorem Fk{H0 H:Hp}(s:nE H0 H)(p:Addr)(o:HO):nE (upd H0 p o) (upd H p o):=λb u e=>by
 by_cases hb:b=p
 ·subst hb;rw[nI]at e ⊢;exact e
 ·rw[nH hb]at e ⊢;exact s _ _ e
theorem nM.newIm(R:nM G F σ ρ H0 H)(hp:H p=none)(o:HO):nM G F σ ρ (upd H0 p o) (upd H p o):=
 R.grow (nQ hp o) (nQ (R.h0none hp) o) (Fk R.sub p o) λb u e=>by
  by_cases hb:b=p
  ·subst hb;exact .inr hp
  ·rw[nH hb]at e;exact .inl e
theorem nM.newOwn(R:nM G F σ ρ H0 H)(hp:H p=none)(o:HO):nM G F σ ρ H0 (upd H p o):=
 R.grow (nQ hp o) (nE.refl _) (λb u e=>by rw[nH (o3 (R.sub _ _ e) hp)];exact R.sub _ _ e) λb u e=>.inl e
def Apart(σ:St)(ρ:List Sl)(p:Addr):Prop:=∀(i:Nat) (s:Sl),ρ[i]?=some s->s.own=true->(σ[i]?).join≠some (.ref p)
theorem nM.apart(R:nM G F σ ρ H0 H)(hp:H p=none):Apart σ ρ p:=λi s e so z=>by obtain⟨a,u,h1,h2,_⟩:=(R.sl i s e).at so;rw[z]at h1;cases h1;rw[hp]at h2;cases h2
theorem nM.freeze(R:nM G F σ ρ H0 H){o:HO}(hp:H p=some o)(h0:H0 p=none)(hb:F.B p=none)(ap:Apart σ ρ p):nM G F σ ρ (upd H0 p o) H where
 sub:=λb u e=>by
  by_cases hb:b=p
  ·subst hb;rw[nI]at e;cases e;exact hp
  ·rw[nH hb]at e;exact R.sub _ _ e
 g0:=R.g0.trans (nQ h0 o)
 keep:=R.keep
 fr:=λb u e=>by
  by_cases hb':b=p
  ·subst hb';exact .inr hb
  ·rw[nH hb']at e;exact R.fr _ _ e
 am:=R.am
 len:=R.len
 sl:=λi s e=>(R.sl i s e).grow (nQ h0 o) (λa u _ _ q=>q) λa u z so q q0=>by rw[nH (λy=>ap i s e so (by rw[z,y]))];exact q0
 ap:=R.ap
theorem AY{σ:St}{v:Option V}(hi:i<σ.length):((σ.set i v)[j]?).join=if j=i then v else (σ[j]?).join:=by
 rw[bC];by_cases h:i=j
 ·subst h;simp[hi]
 ·rw[ai h,ai (λz=>h z.symm)]
theorem nM.set(R:nM G F σ ρ H0 H){v:V}{s:Sl}(hs:yQ G F H0 H (some v) s)(ap:s.own=true->∀a,v=.ref a->∀(j:Nat) (t:Sl),j≠i->ρ[j]?=some t->t.own=true->(σ[j]?).join≠some (.ref a)):
  nM G F (σ.set i (some v)) (ρ.set i s) H0 H where
 sub:=R.sub
 g0:=R.g0
 keep:=R.keep
 fr:=R.fr
 am:=R.am
 len:=by rw[cZ,cZ,R.len]
 sl:=λj t e=>by
  rw[bC]at e;by_cases h:i=j
  ·subst h;rw[ag rfl]at e;split at e
   ·rename_i hi;cases e;rw[AY (by rw[R.len];exact hi),ag rfl];exact hs
   ·cases e
  ·rw[ai h]at e;have hh:=R.sl j t e;rw[bC,ai h];exact hh
 ap:=λj k t u a hjk ej ek tj tk vj vk=>by
  have gen:∀{m:Nat} {x:Sl},(ρ.set i s)[m]?=some x->m≠i->ρ[m]?=some x/\((σ.set i (some v))[m]?).join=(σ[m]?).join:=λ{m x} e hm=>by rw[bC,ai (λz=>hm z.symm)]at e;exact⟨e,by rw[bC,ai (λz=>hm z.symm)]⟩
  have self:∀{x:Sl},(ρ.set i s)[i]?=some x->x=s/\((σ.set i (some v))[i]?).join=some v:=λ{x} e=>by
   rw[bC,ag rfl]at e;split at e
   ·rename_i hi;cases e;exact⟨rfl,by rw[AY (by rw[R.len];exact hi),ag rfl]⟩
   ·cases e
  by_cases hj:j=i
  ·subst hj;obtain⟨rfl,ev⟩:=self ej;rw[ev]at vj;cases vj;obtain⟨e2,e3⟩:=gen ek (λz=>hjk z.symm);rw[e3]at vk;exact ap tj a rfl k u (λz=>hjk z.symm) e2 tk vk
  ·obtain⟨e2,e3⟩:=gen ej hj;by_cases hk:k=i
   ·subst hk;obtain⟨rfl,ev⟩:=self ek;rw[ev]at vk;cases vk;rw[e3]at vj;exact ap tk a rfl j t hj e2 tj vj
   ·obtain⟨e4,e5⟩:=gen ek hk;rw[e3]at vj;rw[e5]at vk;exact R.ap j k t u a hjk e2 e4 tj tk vj vk
theorem nM.setIm(R:nM G F σ ρ H0 H)(i:Nat){v:V}(h:Rep G H0 d v):nM G F (σ.set i (some v)) (ρ.set i (.im d)) H0 H:=R.set ⟨v,rfl,h⟩ λz=>by cases z
theorem nM.setLs(R:nM G F σ ρ H0 H)(i:Nat)(hp:H p=some (.lst xs))(h0:H0 p=none)(hb:F.B p=none)(ap:Apart σ ρ p)(h:ny G H0 ds xs):nM G F (σ.set i (some (.ref p))) (ρ.set i (.ls ds)) H0 H:=
 R.set ⟨p,xs,rfl,hp,h0,hb,h⟩ λ_ a e j t _ ej tj=>by cases e;exact ap j t ej tj
theorem nM.mut(R:nM G F σ ρ H0 H){s s':Sl}{o:HO}(hi:ρ[i]?=some s)(so:s.own=true)(ha:(σ[i]?).join=some (.ref a))(ok:∀H',H' a=some o->yQ G F H0 H' (some (.ref a)) s')
  (so':s'.own=true):nM G F σ (ρ.set i s') H0 (upd H a o):=by
 obtain⟨a',u,e1,e2,e3,e4⟩:=(R.sl i s hi).at so;rw[ha]at e1;cases e1;exact {
  sub:=λb w e=>by rw[nH (λz=>by rw[z,e3]at e;cases e)];exact R.sub _ _ e
  g0:=R.g0
  keep:=λb w e n=>by
   have nb:b≠a:=λz=>by
    subst z;rcases e4 with q|q
    ·rw[q]at e;cases e
    ·exact n q
   rw[nH nb];exact R.keep b w e n
  fr:=R.fr
  am:=λb hb=>by
   by_cases z:b=a
   ·subst z;exact⟨o,nI⟩
   ·rw[nH z];exact R.am b hb
  len:=by rw[cZ];exact R.len
  sl:=λj t e=>by
   rw[bC]at e;by_cases h:i=j
   ·subst h;rw[ag rfl]at e;split at e
    ·cases e;rw[ha];exact ok _ nI
    ·cases e
   ·rw[ai h]at e;refine(R.sl j t e).grow (nE.refl _) (λb w z to q=>?_) λb w _ _ _ q=>q;rw[nH (λy=>by subst y;exact R.ap j i t s b (λy=>h y.symm) e hi to so z ha)];exact q
  ap:=λj k t u b hjk ej ek tj tk vj vk=>by
   have gen:∀{m:Nat} {x:Sl},(ρ.set i s')[m]?=some x->∃y,ρ[m]?=some y/\(x.own=true->y.own=true):=λ{m x} e=>by
    rw[bC]at e;by_cases h:i=m
    ·subst h;exact⟨s,hi,λ_=>so⟩
    ·rw[ai h]at e;exact⟨x,e,λq=>q⟩
   obtain⟨y,ey,oy⟩:=gen ej;obtain⟨z,ez,oz⟩:=gen ek;exact R.ap j k y z b hjk ey ez (oy tj) (oz tk) vj vk }
end
abbrev FE:=List Sl->Option (D×List Sl)
abbrev FT:=List Sl->Option (Bool×List Sl)
abbrev FA:=List Sl->Option (List D×List Sl)
def tF(G:Bg)(f:FE):TE:=λσ H Q=>∃F ρ H0 d ρ',nM G F σ ρ H0 H/\f ρ=some (d,ρ')/\∀v H0' H',nE H0 H0'->nM G F σ ρ' H0' H'->Rep G H0' d v->Q v H'
def tFT(G:Bg)(f:FT):TT:=λσ H Q=>∃F ρ H0 d ρ',nM G F σ ρ H0 H/\f ρ=some (d,ρ')/\∀H0' H',nE H0 H0'->nM G F σ ρ' H0' H'->Q d H'
def tFA(G:Bg)(f:FA):TA:=λσ H Q=>∃F ρ H0 ds ρ',nM G F σ ρ H0 H/\f ρ=some (ds,ρ')/\∀xs H0' H',nE H0 H0'->nM G F σ ρ' H0' H'->ny G H0' ds xs->Q xs H'
def tFN(G:Bg)(f:FA):TE:=λσ H Q=>∃F ρ H0 ds ρ',nM G F σ ρ H0 H/\f ρ=some (ds,ρ')/\∀p xs H0' H',nE H0 H0'->nM G F σ ρ' H0' H'->H' p=some (.lst xs)->H0' p=none->F.B p=none->Apart σ ρ' p->ny G H0' ds xs->Q (.ref p) H'
variable{X:Cx}{e:Expr}
theorem PE.weak{t t':TE}(h:PE X e t)(w:∀σ H Q,t' σ H Q->t σ H Q):PE X e t':=λpins s σ H Q I hq=>h pins s σ H Q I (w _ _ _ hq)
variable{t':TT}
theorem PT.weak{t:TT}(h:PT X e t)(w:∀σ H Q,t' σ H Q->t σ H Q):PT X e t':=λpins s σ H Q I hq=>h pins s σ H Q I (w _ _ _ hq)
theorem PW.weak{t:TT}(h:PW X e t)(w:∀σ H Q,t' σ H Q->t σ H Q):PW X e t':=λwh pins s σ H Q I hq=>h wh pins s σ H Q I (w _ _ _ hq)
theorem PA.weak{e:List Expr}{t t':TA}(h:PA X e t)(w:∀σ H Q,t' σ H Q->t σ H Q):PA X e t':=λpos pins s σ H Q I hq=>h pos pins s σ H Q I (w _ _ _ hq)
noncomputable def cC(d:D):FE:=λρ=>some (d,ρ)
noncomputable def cV(i:Nat):FE:=λρ=>match ρ[i]? with
 |some (.im d)=>some (d,ρ)
 |_=>none
noncomputable def c1(g:D->Option D) (f:FE):FE:=λρ=>match f ρ with
 |some (d,ρ')=>match g d with
  |some x=>some (x,ρ')
  |none=>none
 |none=>none
noncomputable def c2(g:D->D->Option D) (f f':FE):FE:=λρ=>match f ρ with
 |some (x,ρ1)=>match f' ρ1 with
  |some (y,ρ2)=>match g x y with
   |some z=>some (z,ρ2)
   |none=>none
  |none=>none
 |none=>none
variable{f:FE}{ρ ρ':List Sl}{z:D}
theorem xA{g:D->Option D}(h:c1 g f ρ=some (z,ρ')):∃d,f ρ=some (d,ρ')/\g d=some z:=by
 unfold c1 at h;cases e:f ρ with
 |none=>rw[e]at h;cases h
 |some p=>
  obtain⟨d,ρ1⟩:=p;rw[e]at h;cases e2:g d with
  |none=>simp only[e2]at h;cases h
  |some x=>simp only[e2]at h;cases h;exact⟨d,rfl,e2⟩
variable{f':FE}
theorem zZ{g:D->D->Option D}(h:c2 g f f' ρ=some (z,ρ')):∃x y ρ1,f ρ=some (x,ρ1)/\f' ρ1=some (y,ρ')/\g x y=some z:=by
 unfold c2 at h;cases e:f ρ with
 |none=>rw[e]at h;cases h
 |some p=>
  obtain⟨x,ρ1⟩:=p;simp only[e]at h;cases e2:f' ρ1 with
  |none=>simp only[e2]at h;cases h
  |some q=>
   obtain⟨y,ρ2⟩:=q;simp only[e2]at h;cases e3:g x y with
   |none=>simp only[e3]at h;cases h
   |some w=>simp only[e3]at h;cases h;exact⟨x,y,ρ1,rfl,e2,e3⟩
variable{pos:Pos}{op:eB}{es:List Expr}
section
variable{X:Cx}{G:Bg}
theorem Li{i j pos}:PE X (.Constant (.int i) j pos) (tF G (cC (.int i))):=PE.weak EN λσ H Q h=>by obtain⟨F,ρ,H0,d,ρ',R,e,k⟩:=h;cases e;exact k _ _ _ (nE.refl _) R (o8 i)
theorem OC{i j pos}:PE X (.Constant (.bool i) j pos) (tF G (cC (.bl i))):=PE.weak N4 λσ H Q h=>by obtain⟨F,ρ,H0,d,ρ',R,e,k⟩:=h;cases e;exact k _ _ _ (nE.refl _) R (qh i)
theorem Lj{i j pos}:PE X (.Constant (.str i) j pos) (tF G (cC (.str i))):=PE.weak Kz λσ H Q h=>by obtain⟨F,ρ,H0,d,ρ',R,e,k⟩:=h;cases e;exact k _ _ _ (nE.refl _) R (vA i)
theorem Lk{j pos}:PE X (.Constant .none j pos) (tF G (cC .non)):=PE.weak Ky λσ H Q h=>by obtain⟨F,ρ,H0,d,ρ',R,e,k⟩:=h;cases e;exact k _ _ _ (nE.refl _) R vB
theorem HY(h:cV i ρ=some (d,ρ')):ρ[i]?=some (.im d)/\ρ'=ρ:=by
 unfold cV at h;split at h
 ·rename_i e;cases h;exact⟨e,rfl⟩
 ·cases h
theorem pO{α:Type}{o:Option (Option α)}{v:α}(h:o.join=some v):o=some (some v):=by
 cases o with
 |none=>cases h
 |some u=>cases u with
  |none=>cases h
  |some w=>cases h;rfl
theorem BW(h:PE X e (rW i)):PE X e (tF G (cV i)):=PE.weak h λσ H Q hh=>by obtain⟨F,ρ,H0,d,ρ',R,e,k⟩:=hh;obtain⟨e1,rfl⟩:=HY e;obtain⟨v,e2,e3⟩:=R.sl i _ e1;exact⟨v,pO e2,k _ _ _ (nE.refl _) R e3⟩
theorem HZ{v:V}(h:PE X e (tC v))(r:∀H,Rep G H d v):PE X e (tF G (cC d)):=PE.weak h λσ H Q hh=>by obtain⟨F,ρ,H0,d',ρ',R,e,k⟩:=hh;cases e;exact k _ _ _ (nE.refl _) R (r _)
def OpD(G:Bg)(r:R2)(g:D->D->Option D):Prop:=∀x y z H0 H v u (Q:VK),g x y=some z->nE H0 H->Rep G H0 x v->Rep G H0 y u->(∀w,(∀H0',nE H0 H0'->Rep G H0' z w)->Q w H)->r v u H Q
theorem CM{r:R2}{g:D->D->Option D}(ho:OpD G r g):∀σ H Q,tF G (c2 g f f') σ H Q->tOp r (tF G f) (tF G f') σ H Q:=λσ H Q hh=>by obtain⟨F,ρ,H0,d,ρ',R,e,k⟩:=hh;obtain⟨x,y,ρ1,e1,e2,e3⟩:=zZ e;refine⟨F,ρ,H0,x,ρ1,R,e1,λv H1 H1' s1 R1 r1=>⟨F,ρ1,H1,y,ρ',R1,e2,λu H2 H2' s2 R2 r2=>?_⟩⟩;exact ho x y d H2 H2' v u Q e3 R2.sub (Rep.mono s2 _ _ r1) r2 λw hw=>k w H2 H2' (s1.trans s2) R2 (hw _ (nE.refl _))
theorem OD{a b:Expr}{op:gH}{r:R2}{g:D->D->Option D}(hr:OpR X (cF op) r)(ho:OpD G r g)(ha:PE X a (tF G f))(hb:PE X b (tF G f')):PE X (.BinOp a op b pos) (tF G (c2 g f f')):=PE.weak (EW hr ha hb) (CM ho)
theorem Ll{a b:Expr}{r:R2}{g:D->D->Option D}(hr:OpR X (aW op) r)(ho:OpD G r g)(ha:PE X a (tF G f))(hb:PE X b (tF G f'))(hm:dY op b=false):PE X (.Compare a [op] [b] pos) (tF G (c2 g f f')):=PE.weak (Hz hr ha hb hm) (CM ho)
theorem OE{a b:Expr}{r:R2}{g:D->D->Option D}(hr:IxR X r)(ho:OpD G r g)(ha:PE X a (tF G f))(hb:PE X b (tF G f'))(hs:CH b):PE X (.Subscript a b pos) (tF G (c2 g f f')):=PE.weak (JX hr ha hb hs) (CM ho)
def cT(f:FE):FT:=λρ=>match f ρ with
 |some (.bl b,ρ')=>some (b,ρ')
 |_=>none
theorem CN{b:Bool}(h:cT f ρ=some (b,ρ')):f ρ=some (.bl b,ρ'):=by
 unfold cT at h;split at h
 ·rename_i e;cases h;exact e
 ·cases h
theorem CO:∀σ H Q,tFT G (cT f) σ H Q->EZ (tF G f) σ H Q:=λσ H Q hh=>by obtain⟨F,ρ,H0,d,ρ',R,e,k⟩:=hh;refine⟨F,ρ,H0,_,ρ',R,CN e,λv H0' H' s R' r=>?_⟩;unfold Rep at r;exact⟨d,r,k _ _ s R'⟩
theorem Ia{a b:Expr}{r:R2}{g:D->D->Option D}(hr:OpR X (aW op) r)(ho:OpD G r g)(ha:PE X a (tF G f))(hb:PE X b (tF G f'))(hm:dY op b=false):
  PT X (.Compare a [op] [b] pos) (tFT G (cT (c2 g f f'))):=PT.weak (HA hr ha hb hm) λσ H Q hh=>by
 obtain⟨F,ρ,H0,d,ρ',R,e,k⟩:=CO σ H Q hh;exact CM ho σ H _ ⟨F,ρ,H0,d,ρ',R,e,k⟩
theorem Ib(h:PE X e (tF G f))(he:∀whole,isTrue e X.env whole=(do let v<-whole;standAt e.pos;holding [v] (truthy v)):=by intro _;rfl):PT X e (tFT G (cT f)):=PT.weak (KA h he) λσ H Q hh=>by obtain⟨F,ρ,H0,d,ρ',R,e,k⟩:=hh;refine⟨F,ρ,H0,_,ρ',R,CN e,λv H0' H' s R' r=>?_⟩;unfold Rep at r;exact⟨d,r,k _ _ s R'⟩
def sd(f:FT):FT:=λρ=>match f ρ with
 |some (b,ρ')=>some (!b,ρ')
 |none=>none
def vC(f g:FT):FT:=λρ=>match f ρ with
 |some (true,ρ')=>g ρ'
 |r=>r
def z5(f g:FT):FT:=λρ=>match f ρ with
 |some (false,ρ')=>g ρ'
 |r=>r
theorem Ie{a:Expr}{f:FT}(h:PT X a (tFT G f)):PT X (.UnaryOp .Not a pos) (tFT G (sd f)):=PT.weak (KD h) λσ H Q hh=>by
 obtain⟨F,ρ,H0,d,ρ',R,e,k⟩:=hh;unfold sd at e;cases e1:f ρ with
 |none=>simp only[e1]at e;cases e
 |some p=>obtain⟨b,ρ1⟩:=p;simp only[e1]at e;cases e;exact⟨F,ρ,H0,b,_,R,e1,λH0' H' s R'=>k _ _ s R'⟩
theorem Lm{f g:FT}:∀σ H Q,tFT G (vC f g) σ H Q->N5 (tFT G f) (tFT G g) σ H Q:=λσ H Q hh=>by
 obtain⟨F,ρ,H0,d,ρ',R,e,k⟩:=hh;unfold vC at e;cases e1:f ρ with
 |none=>simp only[e1]at e;cases e
 |some p=>
  obtain⟨b,ρ1⟩:=p;cases b with
  |true=>simp only[e1]at e;exact⟨F,ρ,H0,true,ρ1,R,e1,λH0' H' s R'=>zW ⟨F,ρ1,H0',d,ρ',R',e,λH2 H2' s2 R2=>k _ _ (s.trans s2) R2⟩⟩
  |false=>simp only[e1]at e;cases e;exact⟨F,ρ,H0,false,_,R,e1,λH0' H' s R'=>zV (k _ _ s R')⟩
theorem OF{f g:FT}:∀σ H Q,tFT G (z5 f g) σ H Q->tOr (tFT G f) (tFT G g) σ H Q:=λσ H Q hh=>by
 obtain⟨F,ρ,H0,d,ρ',R,e,k⟩:=hh;unfold z5 at e;cases e1:f ρ with
 |none=>simp only[e1]at e;cases e
 |some p=>
  obtain⟨b,ρ1⟩:=p;cases b with
  |false=>simp only[e1]at e;exact⟨F,ρ,H0,false,ρ1,R,e1,λH0' H' s R'=>zV ⟨F,ρ1,H0',d,ρ',R',e,λH2 H2' s2 R2=>k _ _ (s.trans s2) R2⟩⟩
  |true=>simp only[e1]at e;cases e;exact⟨F,ρ,H0,true,_,R,e1,λH0' H' s R'=>zW (k _ _ s R')⟩
theorem Fl{a:Expr}{f:FT}(h:PT X a (tFT G f)):PW X (.BoolOp .And [a] pos) (tFT G f):=Ho h
theorem Ig{a:Expr}{f:FT}(h:PT X a (tFT G f)):PW X (.BoolOp .Or [a] pos) (tFT G f):=KB h
theorem Ih{a b:Expr}{rest:List Expr}{f g:FT}(ha:PT X a (tFT G f))(hb:PW X (.BoolOp .And (b::rest) pos) (tFT G g)):PW X (.BoolOp .And (a::b::rest) pos) (tFT G (vC f g)):=PW.weak (KC ha hb) Lm
theorem Fm{a b:Expr}{rest:List Expr}{f g:FT}(ha:PT X a (tFT G f))(hb:PW X (.BoolOp .Or (b::rest) pos) (tFT G g)):PW X (.BoolOp .Or (a::b::rest) pos) (tFT G (z5 f g)):=PW.weak (N6 ha hb) OF
def pM(f g:FE):FE:=λρ=>match f ρ with
 |some (.bl true,ρ')=>g ρ'
 |some (.bl false,ρ')=>some (.bl false,ρ')
 |_=>none
def cOr(f g:FE):FE:=λρ=>match f ρ with
 |some (.bl false,ρ')=>g ρ'
 |some (.bl true,ρ')=>some (.bl true,ρ')
 |_=>none
def yR(f:FE):FE:=λρ=>match f ρ with
 |some (.bl b,ρ')=>some (.bl !b,ρ')
 |_=>none
def cIf(c:FT)(f g:FE):FE:=λρ=>match c ρ with
 |some (true,ρ')=>f ρ'
 |some (false,ρ')=>g ρ'
 |none=>none
theorem Ln{a:Expr}{op}(h:PE X a (tF G f)):PE X (.BoolOp op [a] pos) (tF G f):=KE h
theorem AZ:(∃ρ1,f ρ=some (.bl true,ρ1))\/(∃ρ1,f ρ=some (.bl false,ρ1))\/(∀b ρ1,f ρ≠some (.bl b,ρ1)):=by
 by_cases h1:∃ρ1,f ρ=some (.bl true,ρ1)
 ·exact .inl h1
 by_cases h2:∃ρ1,f ρ=some (.bl false,ρ1)
 ·exact .inr (.inl h2)
 refine .inr (.inr λb ρ1 z=>?_);cases b with
 |true=>exact h1 ⟨ρ1,z⟩
 |false=>exact h2 ⟨ρ1,z⟩
theorem Ed{g:FE}(h:∀b ρ1,f ρ≠some (.bl b,ρ1)):pM f g ρ=none:=by
 unfold pM;split
 ·rename_i e;exact ak e (h _ _)
 ·rename_i e;exact ak e (h _ _)
 ·rfl
theorem Fn{g:FE}(h:∀b ρ1,f ρ≠some (.bl b,ρ1)):cOr f g ρ=none:=by
 unfold cOr;split
 ·rename_i e;exact ak e (h _ _)
 ·rename_i e;exact ak e (h _ _)
 ·rfl
theorem Lo{a b:Expr}{rest:List Expr}{g:FE}(ha:PE X a (tF G f))(hb:PE X (.BoolOp .And (b::rest) pos) (tF G g)):PE X (.BoolOp .And (a::b::rest) pos) (tF G (pM f g)):=PE.weak (KF ha hb) λσ H Q hh=>by
 obtain⟨F,ρ,H0,d,ρ',R,e,k⟩:=hh;rcases AZ (f:=f) (ρ:=ρ)with ⟨ρ1,e1⟩|⟨ρ1,e1⟩|e1
 ·have e':g ρ1=some (d,ρ'):=by unfold pM at e;simp only[e1]at e;exact e
  refine⟨F,ρ,H0,_,ρ1,R,e1,λv H1 H1' s R' r=>?_⟩;unfold Rep at r;refine⟨true,r,?_⟩;exact zW ⟨F,ρ1,H1,d,ρ',R',e',λv H2 H2' s2 R2 r2=>k _ _ _ (s.trans s2) R2 r2⟩
 ·have e':some (D.bl false,ρ1)=some (d,ρ'):=by unfold pM at e;simp only[e1]at e;exact e
  cases e';refine⟨F,ρ,H0,_,_,R,e1,λv H1 H1' s R' r=>?_⟩;have r':=r;unfold Rep at r';refine⟨false,r',?_⟩;exact zV (k _ _ _ s R' (qh false))
 ·rw[Ed e1]at e;cases e
theorem OG{a b:Expr}{rest:List Expr}{g:FE}(ha:PE X a (tF G f))(hb:PE X (.BoolOp .Or (b::rest) pos) (tF G g)):PE X (.BoolOp .Or (a::b::rest) pos) (tF G (cOr f g)):=PE.weak (N9 ha hb) λσ H Q hh=>by
 obtain⟨F,ρ,H0,d,ρ',R,e,k⟩:=hh;rcases AZ (f:=f) (ρ:=ρ)with ⟨ρ1,e1⟩|⟨ρ1,e1⟩|e1
 ·have e':some (D.bl true,ρ1)=some (d,ρ'):=by unfold cOr at e;simp only[e1]at e;exact e
  cases e';refine⟨F,ρ,H0,_,_,R,e1,λv H1 H1' s R' r=>?_⟩;unfold Rep at r;refine⟨true,r,?_⟩;exact zW (k _ _ _ s R' (qh true))
 ·have e':g ρ1=some (d,ρ'):=by unfold cOr at e;simp only[e1]at e;exact e
  refine⟨F,ρ,H0,_,ρ1,R,e1,λv H1 H1' s R' r=>?_⟩;unfold Rep at r;refine⟨false,r,?_⟩;exact zV ⟨F,ρ1,H1,d,ρ',R',e',λv H2 H2' s2 R2 r2=>k _ _ _ (s.trans s2) R2 r2⟩
 ·rw[Fn e1]at e;cases e
theorem Lp{a:Expr}(ha:PE X a (tF G f)):PE X (.UnaryOp .Not a pos) (tF G (yR f)):=PE.weak (KG ha) λσ H Q hh=>by
 obtain⟨F,ρ,H0,d,ρ',R,e,k⟩:=hh;unfold yR at e;split at e
 ·rename_i b ρ1 e1;cases e;refine⟨F,ρ,H0,_,_,R,e1,λv H1 H1' s R' r=>?_⟩;unfold Rep at r;exact⟨b,r,k _ _ _ s R' (qh _)⟩
 ·cases e
theorem OH{c a b:Expr}{h:FT}{g:FE}(hc:PT X c (tFT G h))(ha:PE X a (tF G f))(hb:PE X b (tF G g)):PE X (.IfExp c a b pos) (tF G (cIf h f g)):=PE.weak (EO hc ha hb) λσ H Q hh=>by
 obtain⟨F,ρ,H0,d,ρ',R,e,k⟩:=hh;unfold cIf at e;cases e1:h ρ with
 |none=>simp only[e1]at e;cases e
 |some p=>
  obtain⟨b,ρ1⟩:=p;refine⟨F,ρ,H0,b,ρ1,R,e1,λH1 H1' s R'=>?_⟩;cases b with
  |true=>simp only[e1]at e;exact zW ⟨F,ρ1,H1,d,ρ',R',e,λv H2 H2' s2 R2 r2=>k _ _ _ (s.trans s2) R2 r2⟩
  |false=>simp only[e1]at e;exact zV ⟨F,ρ1,H1,d,ρ',R',e,λv H2 H2' s2 R2 r2=>k _ _ _ (s.trans s2) R2 r2⟩
noncomputable def n6:FA:=λρ=>some ([],ρ)
noncomputable def aCons(f:FE) (g:FA):FA:=λρ=>match f ρ with
 |some (d,ρ1)=>match g ρ1 with
  |some (ds,ρ2)=>some (d::ds,ρ2)
  |none=>none
 |none=>none
theorem xV{g:FA}(h:aCons f g ρ=some (ds,ρ')):∃d r ρ1,f ρ=some (d,ρ1)/\g ρ1=some (r,ρ')/\ds=d::r:=by
 unfold aCons at h;cases e:f ρ with
 |none=>rw[e]at h;cases h
 |some p=>
  obtain⟨x,ρ1⟩:=p;simp only[e]at h;cases e2:g ρ1 with
  |none=>simp only[e2]at h;cases h
  |some q=>obtain⟨y,ρ2⟩:=q;simp only[e2]at h;cases h;exact⟨x,y,ρ1,rfl,e2,rfl⟩
theorem rq:PA X [] (tFA G n6):=PA.weak sX λσ H Q hh=>by obtain⟨F,ρ,H0,d,ρ',R,e,k⟩:=hh;cases e;exact k _ _ _ (nE.refl _) R nY
theorem pE{g:FA}(ha:PE X e (tF G f))(hr:PA X es (tFA G g))(hs:aq (e::es) X.env=(false,eval e X.env)::aq es X.env:=by rfl):PA X (e::es) (tFA G (aCons f g)):=PA.weak (qg ha hr hs) λσ H Q hh=>by obtain⟨F,ρ,H0,d,ρ',R,e,k⟩:=hh;obtain⟨x,r,ρ1,e1,e2,rfl⟩:=xV e;exact⟨F,ρ,H0,x,ρ1,R,e1,λv H1 H1' s R' rv=>⟨F,ρ1,H1,r,ρ',R',e2,λxs H2 H2' s2 R2 rs=>k _ _ _ (s.trans s2) R2 (n9 (Rep.mono s2 _ _ rv) rs)⟩⟩
def om(g:FA):FE:=λρ=>match g ρ with
 |some (ds,ρ')=>if ds.length<=1000 then some (.tup ds,ρ')else none
 |none=>none
def nP(g:FA):FA:=λρ=>match g ρ with
 |some (ds,ρ')=>if ds.length<=1000 then some (ds,ρ')else none
 |none=>none
theorem Lq{x1}{g:FA}(h:PA X es (tFA G g)):PE X (.Tuple es x1 pos) (tF G (om g)):=PE.weak (K4 h) λσ H Q hh=>by
 obtain⟨F,ρ,H0,d,ρ',R,e,k⟩:=hh;unfold om at e;cases e1:g ρ with
 |none=>simp only[e1]at e;cases e
 |some p=>
  obtain⟨ds,ρ1⟩:=p;simp only[e1]at e;split at e
  ·rename_i hl;cases e;refine⟨F,ρ,H0,_,_,R,e1,λxs H1 H1' s R' rs=>⟨by rw[<-nu rs];exact qM hl,λp hp=>?_⟩⟩;exact k _ _ _ (s.trans (nQ (R'.h0none hp) _)) (R'.newIm hp _) (zY (SqT.of nI) (ny.mono (nQ (R'.h0none hp) _) _ _ rs))
  ·cases e
theorem Ii{g:FA}(h:PA X es (tFA G g)):PE X (.List es pos) (tFN G (nP g)):=PE.weak (E4 h) λσ H Q hh=>by
 obtain⟨F,ρ,H0,d,ρ',R,e,k⟩:=hh;unfold nP at e;cases e1:g ρ with
 |none=>simp only[e1]at e;cases e
 |some p=>
  obtain⟨ds,ρ1⟩:=p;simp only[e1]at e;split at e
  ·rename_i hl;cases e;refine⟨F,ρ,H0,_,_,R,e1,λxs H1 H1' s R' rs=>⟨by rw[<-nu rs];exact qM hl,λp hp=>?_⟩⟩;exact k _ _ _ _ s (R'.newOwn hp _) nI (R'.h0none hp) (R'.bNone hp) (R'.apart hp) rs
  ·cases e
def cL(g:FA):FE:=λρ=>match g ρ with
 |some (ds,ρ')=>some (.lst ds,ρ')
 |none=>none
theorem Ik{g:FA}(h:cL g ρ=some (d,ρ')):∃ds,g ρ=some (ds,ρ')/\d=.lst ds:=by
 unfold cL at h;cases e:g ρ with
 |none=>simp only[e]at h;cases h
 |some p=>obtain⟨ds,ρ1⟩:=p;simp only[e]at h;cases h;exact⟨ds,rfl,rfl⟩
theorem OJ{g:FA}:∀σ H Q,tF G (cL g) σ H Q->tFN G g σ H Q:=λσ H Q hh=>by obtain⟨F,ρ,H0,d,ρ',R,e,k⟩:=hh;obtain⟨ds,e1,rfl⟩:=Ik e;refine⟨F,ρ,H0,ds,ρ',R,e1,λp xs H1 H1' s R' hp h0 hb ap rs=>?_⟩;exact k _ _ _ (s.trans (nQ h0 _)) (R'.freeze hp h0 hb ap) (r9 nI (ny.mono (nQ h0 _) _ _ rs))
theorem Lr{g:FA}(h:PE X e (tFN G g)):PE X e (tF G (cL g)):=PE.weak h OJ
end
inductive Out where
 |nx (ρ:List Sl)|bk (ρ:List Sl)|ct (ρ:List Sl)
 |rt (d:D) (ρ:List Sl)
 |rn (ds:List D) (ρ:List Sl)
abbrev FS:=List Sl->Option Out
def CP(G:Bg)(F:Fr)(H0:Hp)(E:Ends):Out->Prop
 |.nx ρ'=>∀σ' H0' H',nE H0 H0'->nM G F σ' ρ' H0' H'->E.nx σ' H'
 |.bk ρ'=>∀σ' H0' H',nE H0 H0'->nM G F σ' ρ' H0' H'->E.bk σ' H'
 |.ct ρ'=>∀σ' H0' H',nE H0 H0'->nM G F σ' ρ' H0' H'->E.ct σ' H'
 |.rt d ρ'=>∀v σ' H0' H',nE H0 H0'->nM G F σ' ρ' H0' H'->Rep G H0' d v->E.rt v H'
 |.rn ds ρ'=>∀p xs σ' H0' H',nE H0 H0'->nM G F σ' ρ' H0' H'->H' p=some (.lst xs)->H0' p=none->F.B p=none->Apart σ' ρ' p->ny G H0' ds xs->E.rt (.ref p) H'
def tFS(G:Bg)(f:FS):TS:=λE σ H=>∃F ρ H0 o,nM G F σ ρ H0 H/\f ρ=some o/\CP G F H0 E o/\(∀p,E.rt p=E.rt p)
variable{H1:Hp}
theorem CP.back{E:Ends}{o:Out}(h:CP G F H0 E o)(s:nE H0 H1):CP G F H1 E o:=by
 cases o with
 |nx ρ=>exact λσ' H0' H' s' R=>h σ' H0' H' (s.trans s') R
 |bk ρ=>exact λσ' H0' H' s' R=>h σ' H0' H' (s.trans s') R
 |ct ρ=>exact λσ' H0' H' s' R=>h σ' H0' H' (s.trans s') R
 |rt d ρ=>exact λv σ' H0' H' s' R=>h v σ' H0' H' (s.trans s') R
 |rn ds ρ=>exact λp xs σ' H0' H' s' R=>h p xs σ' H0' H' (s.trans s') R
theorem PS.weak{e:Stmt}{t t':TS}(h:PS X e t)(w:∀E σ H,t' E σ H->t E σ H):PS X e t':=λpins s σ H D I hq=>h pins s σ H D I (w _ _ _ hq)
theorem PSs.weak{e:List Stmt}{t t':TS}(h:PSs X e t)(w:∀E σ H,t' E σ H->t E σ H):PSs X e t':=λpins s σ H D I hq=>h pins s σ H D I (w _ _ _ hq)
def oY:FS:=λρ=>some (.nx ρ)
noncomputable def nz(f g:FS):FS:=λρ=>match f ρ with
 |some (.nx ρ')=>g ρ'
 |r=>r
variable{σ:St}{tg:Expr}{gs:List D->List Sl->Option (List Sl)}{N:List Str}{vs:List V}{np:Nat}
section
variable{X:Cx}{G:Bg}
theorem Fo{E:Ends}{H:Hp}(h:tFS G oY E σ H):E.nx σ H:=by obtain⟨F,ρ,H0,o,R,e,k,_⟩:=h;cases e;exact k _ _ _ (nE.refl _) R
theorem Il:PSs X [] (tFS G oY):=PSs.weak Ct λE σ H h=>Fo h
theorem Fp{st:Stmt}{rest:List Stmt}{f g:FS}(h1:PS X st (tFS G f))(h2:PSs X rest (tFS G g)):PSs X (st::rest) (tFS G (nz f g)):=PSs.weak (vv h1 h2) λE σ H h=>by
 obtain⟨F,ρ,H0,o,R,e,k,k2⟩:=h;unfold nz at e;cases e1:f ρ with
 |none=>simp only[e1]at e;cases e
 |some o1=>
  cases o1 with
  |nx ρ1=>simp only[e1]at e;exact⟨F,ρ,H0,_,R,e1,λσ' H0' H' s R'=>⟨F,ρ1,H0',o,R',e,k.back s,k2⟩,k2⟩
  |bk ρ1=>simp only[e1]at e;cases e;exact⟨F,ρ,H0,_,R,e1,k,k2⟩
  |ct ρ1=>simp only[e1]at e;cases e;exact⟨F,ρ,H0,_,R,e1,k,k2⟩
  |rt d ρ1=>simp only[e1]at e;cases e;exact⟨F,ρ,H0,_,R,e1,k,k2⟩
  |rn d ρ1=>simp only[e1]at e;cases e;exact⟨F,ρ,H0,_,R,e1,k,k2⟩
theorem Im{st:Stmt}{f:FS}(h1:PS X st (tFS G f)):PSs X [st] (tFS G f):=xy h1
noncomputable def oK(f:FE):FS:=λρ=>match f ρ with
 |some (d,ρ')=>some (.rt d ρ')
 |none=>none
noncomputable def pP(f:FA):FS:=λρ=>match f ρ with
 |some (d,ρ')=>some (.rn d ρ')
 |none=>none
theorem nN{α:Type}{f:List Sl->Option (α×List Sl)}:f ρ=none\/∃d ρ',f ρ=some (d,ρ'):=by
 cases e:f ρ with
 |none=>exact .inl rfl
 |some p=>exact .inr ⟨p.1,p.2,rfl⟩
theorem Io(h:PE X e (tF G f)):PS X (.Return (some e) pos) (tFS G (oK f)):=PS.weak (BF h) λE σ H hh=>by
 obtain⟨F,ρ,H0,o,R,e,k,k2⟩:=hh;unfold oK at e;rcases nN (f:=f) (ρ:=ρ)with e1|⟨d,ρ',e1⟩<;>simp only[e1]at e
 ·cases e
 ·cases e;exact⟨F,ρ,H0,d,ρ',R,e1,λv H0' H' s R' r=>k _ _ _ _ s R' r⟩
theorem Fq{f:FA}(h:PE X e (tFN G f)):PS X (.Return (some e) pos) (tFS G (pP f)):=PS.weak (BF h) λE σ H hh=>by
 obtain⟨F,ρ,H0,o,R,e,k,k2⟩:=hh;unfold pP at e;rcases nN (f:=f) (ρ:=ρ)with e1|⟨d,ρ',e1⟩<;>simp only[e1]at e
 ·cases e
 ·cases e;exact⟨F,ρ,H0,d,ρ',R,e1,λp xs H0' H' s R' h1 h2 h3 h4 h5=>k _ _ _ _ _ s R' h1 h2 h3 h4 h5⟩
noncomputable def pQ(f:FE):FS:=λρ=>match f ρ with
 |some (_,ρ')=>some (.nx ρ')
 |none=>none
theorem Fs(h:PE X e (tF G f))(hs:bX e none pos.line X.env=pure false:=by rfl):PS X (.Expr e pos) (tFS G (pQ f)):=PS.weak (zI h hs) λE σ H hh=>by
 obtain⟨F,ρ,H0,o,R,e,k,k2⟩:=hh;unfold pQ at e;rcases nN (f:=f) (ρ:=ρ)with e1|⟨d,ρ',e1⟩<;>simp only[e1]at e
 ·cases e
 ·cases e;exact⟨F,ρ,H0,d,ρ',R,e1,λv H0' H' s R' r=>k _ _ _ s R'⟩
noncomputable def sIf(c:FT) (f g:FS):FS:=λρ=>match c ρ with
 |some (true,ρ')=>f ρ'
 |some (false,ρ')=>g ρ'
 |none=>none
theorem Ls{c:Expr}{a b:List Stmt}{h:FT}{f g:FS}(hc:PT X c (tFT G h))(ha:PSs X a (tFS G f))(hb:PSs X b (tFS G g)):PS X (.If c a b pos) (tFS G (sIf h f g)):=PS.weak (JT hc ha hb) λE σ H hh=>by
 obtain⟨F,ρ,H0,o,R,e,k,k2⟩:=hh;unfold sIf at e;rcases nN (f:=h) (ρ:=ρ)with e1|⟨d,ρ',e1⟩
 ·simp only[e1]at e;cases e
 ·refine⟨F,ρ,H0,d,ρ',R,e1,λH0' H' s R'=>?_⟩;cases d with
  |true=>simp only[e1]at e;exact zW ⟨F,ρ',H0',o,R',e,k.back s,k2⟩
  |false=>simp only[e1]at e;exact zV ⟨F,ρ',H0',o,R',e,k.back s,k2⟩
abbrev FG:=D->List Sl->Option (List Sl)
def tFG(G:Bg)(n:Nat)(g:FG):TG:=λv σ H Q=>∃F ρ H0 d ρ',nM G F σ ρ H0 H/\Rep G H0 d v/\g d ρ=some ρ'/\∀σ',σ'.drop n=σ.drop n->nM G F σ' ρ' H0 H->Q σ' H
def Ft(G:Bg)(n:Nat)(g:List D->List Sl->Option (List Sl)):TGs:=λvs σ H Q=>∃F ρ H0 ds ρ',nM G F σ ρ H0 H/\ny G H0 ds vs/\g ds ρ=some ρ'/\∀σ',σ'.drop n=σ.drop n->nM G F σ' ρ' H0 H->Q σ' H
theorem PG.weak{t t':TG}(h:PG X e t)(w:∀v σ H Q,t' v σ H Q->t v σ H Q):PG X e t':=λpins s σ H x u Q I r hq=>h pins s σ H x u Q I r (w _ _ _ _ hq)
theorem PGs.weak{e:List Expr}{t t':TGs}(h:PGs X e t)(w:∀v σ H Q,t' v σ H Q->t v σ H Q):PGs X e t':=λpins s σ H x u Q I r hq=>h pins s σ H x u Q I r (w _ _ _ _ hq)
def gN(i:Nat):FG:=λd ρ=>some (ρ.set i (.im d))
theorem A0{α:Type}{l:List α}{n:Nat}{x:α}(h:i<n):(l.set i x).drop n=l.drop n:=by apply jS;intro j;rw[cU,cU,bC,ai (by omega)]
theorem Fu(n:Nat)(h:PG X tg (r6 i))(hi:i<n):PG X tg (tFG G n (gN i)):=PG.weak h λv σ H Q hh=>by obtain⟨F,ρ,H0,d,ρ',R,r,e,k⟩:=hh;cases e;exact k _ (A0 hi) (R.setIm i r)
def wN:List D->List Sl->Option (List Sl):=λds ρ=>match ds with
 |[]=>some ρ
 |_=>none
def qb(g:FG)(gs:List D->List Sl->Option (List Sl)):List D->List Sl->Option (List Sl):=λds ρ=>match ds with
 |d::r=>match g d ρ with
  |some ρ'=>gs r ρ'
  |none=>none
 |[]=>none
theorem Ip{n:Nat}(h:PGs X [] Oe):PGs X [] (Ft G n wN):=PGs.weak h λv σ H Q hh=>by
 obtain⟨F,ρ,H0,ds,ρ',R,r,e,k⟩:=hh;cases ds with
 |nil=>cases e;unfold ny at r;exact⟨r,k _ rfl R⟩
 |cons d ds=>cases e
theorem Fv{n:Nat}{g:FG}(h:PGs X (e::es) (JU (tFG G n g) (Ft G n gs))):PGs X (e::es) (Ft G n (qb g gs)):=PGs.weak h λv σ H Q hh=>by
 obtain⟨F,ρ,H0,ds,ρ',R,r,e,k⟩:=hh;cases ds with
 |nil=>cases e
 |cons d ds=>
  unfold ny at r;obtain⟨v1,r1,rfl,q1,q2⟩:=r;unfold qb at e;cases e1:g d ρ with
  |none=>simp only[e1]at e;cases e
  |some ρ1=>simp only[e1]at e;exact⟨v1,r1,rfl,F,ρ,H0,d,ρ1,R,q1,e1,λσ' s R'=>⟨F,ρ1,H0,ds,ρ',R',q2,e,λσ'' s' R''=>k _ (s'.trans s) R''⟩⟩
def gT(gs:List D->List Sl->Option (List Sl))(n:Nat):FG:=λd ρ=>match d with
 |.tup ds=>if ds.length=n then gs ds ρ else none
 |_=>none
theorem Iq{n m:Nat}{k:Nat}(h:PG X (.Tuple es k pos) (KI G.K m (Ft G n gs))):PG X (.Tuple es k pos) (tFG G n (gT gs m)):=PG.weak h λv σ H Q hh=>by
 obtain⟨F,ρ,H0,d,ρ',R,r,e,k⟩:=hh;cases d with
 |tup ds=>
  unfold gT at e;simp only at e;split at e
  ·rename_i hl;unfold Rep at r;obtain⟨a,xs,rfl,h1,h2⟩:=r;exact⟨a,xs,rfl,SqT.mono R.sub h1,by rw[<-nu h2];exact hl,F,ρ,H0,ds,ρ',R,h2,e,k⟩
  ·cases e
 |_=>cases e
def xW(f:FE)(g:FG):FS:=λρ=>match f ρ with
 |some (d,ρ')=>match g d ρ' with
  |some ρ2=>some (.nx ρ2)
  |none=>none
 |none=>none
theorem Ir{st:Stmt}{g:FG}{n:Nat}(h:PS X st (uL (tF G f) (tFG G n g))):PS X st (tFS G (xW f g)):=PS.weak h λE σ H hh=>by
 obtain⟨F,ρ,H0,o,R,e,k,k2⟩:=hh;unfold xW at e;rcases nN (f:=f) (ρ:=ρ)with e1|⟨d,ρ',e1⟩<;>simp only[e1]at e
 ·cases e
 ·cases e2:g d ρ' with
  |none=>simp only[e2]at e;cases e
  |some ρ2=>simp only[e2]at e;cases e;exact⟨F,ρ,H0,d,ρ',R,e1,λv H0' H' s R' r=>⟨F,ρ',H0',d,ρ2,R',r,e2,λσ' _ R2=>k _ _ _ s R2⟩⟩
def ot(i:Nat)(f:FE):FS:=λρ=>match f ρ with
 |some (d,ρ')=>some (.nx (ρ'.set i (.im d)))
 |none=>none
theorem CQ{st:Stmt}(h:PS X st (uL (tF G f) (r6 i))):PS X st (tFS G (ot i f)):=PS.weak h λE σ H hh=>by
 obtain⟨F,ρ,H0,o,R,e,k,k2⟩:=hh;unfold ot at e;rcases nN (f:=f) (ρ:=ρ)with e1|⟨d,ρ',e1⟩<;>simp only[e1]at e
 ·cases e
 ·cases e;exact⟨F,ρ,H0,d,ρ',R,e1,λv H0' H' s R' r=>k _ _ _ s (R'.setIm i r)⟩
def qy(i:Nat)(f:FA):FS:=λρ=>match f ρ with
 |some (d,ρ')=>some (.nx (ρ'.set i (.ls d)))
 |none=>none
theorem A1{st:Stmt}{f:FA}(h:PS X st (uL (tFN G f) (r6 i))):PS X st (tFS G (qy i f)):=PS.weak h λE σ H hh=>by
 obtain⟨F,ρ,H0,o,R,e,k,k2⟩:=hh;unfold qy at e;rcases nN (f:=f) (ρ:=ρ)with e1|⟨d,ρ',e1⟩<;>simp only[e1]at e
 ·cases e
 ·cases e;exact⟨F,ρ,H0,d,ρ',R,e1,λp xs H0' H' s R' h1 h2 h3 h4 h5=>k _ _ _ s (R'.setLs i h1 h2 h3 h4 h5)⟩
def stE(n:Nat)(ds:List D):List Sl:=ds.map Sl.im++fK (n - ds.length) .un
def fnD(np n:Nat)(f:FS):List D->Option D:=λds=>if ds.length=np then match f (stE n ds)with
 |some (.rt d _)=>some d
 |some (.rn ds _)=>some (.lst ds)
 |some (.nx _)=>some .non
 |_=>none
 else none
def fnN(np n:Nat)(f:FS):List D->Option (List D):=λds=>if ds.length=np then match f (stE n ds)with
 |some (.rn ds _)=>some ds
 |_=>none
 else none
def spF(G:Bg)(g:List D->Option D):Sp:=λvs H Q _=>∃H0 ds d,nE H0 H/\ny G H0 ds vs/\g ds=some d/\
 ∀v H0' H',nE H0 H0'->nE H0' H'->nE H H'->(∀b o,H0' b=some o->H0 b=some o\/H b=none)->Rep G H0' d v->Q v H'
def spN(G:Bg)(g:List D->Option (List D)):Sp:=λvs H Q _=>∃H0 ds d,nE H0 H/\ny G H0 ds vs/\g ds=some d/\
 ∀p xs H0' H',nE H0 H0'->nE H0' H'->nE H H'->(∀b o,H0' b=some o->H0 b=some o\/H b=none)->H p=none->H' p=some (.lst xs)->H0' p=none->ny G H0' d xs->Q (.ref p) H'
theorem vE{n:Nat}{s:Sl}(h:(stE n ds)[i]?=some s):s=.un\/∃d,ds[i]?=some d/\s=.im d:=by
 unfold stE at h;by_cases hi:i<ds.length
 ·rw[ck (by simpa using hi),aZ,aP hi]at h;cases h;exact .inr ⟨_,aP hi,rfl⟩
 ·rw[cH (by simpa using hi),fj]at h;split at h
  ·cases h;exact .inl rfl
  ·cases h
theorem p6{v:V}(h:vs[i]?=some v):((L2.start N vs)[i]?).join=some v:=by unfold L2.start;have hi:=(bj.mp h).1;rw[ck (by simpa using hi),aZ,h];rfl
theorem wc{H:Hp}(s:nE H0 H)(r:ny G H0 ds vs)(hl:vs.length<=N.length):nM G ⟨H0,H,[]⟩ (L2.start N vs) (stE N.length ds) H0 H where
 sub:=s
 g0:=nE.refl _
 keep:=λb o e _=>e
 fr:=λb o e=>.inl e
 am:=λa h=>by cases h
 len:=by unfold L2.start stE;rw[aw,aw,af,af,bO,bO,nu r]
 sl:=λi t e=>by
  rcases vE e with rfl|⟨d,e1,rfl⟩
  ·trivial
  ·obtain⟨v,e2,e3⟩:=qx r e1;exact⟨v,p6 e2,e3⟩
 ap:=λi j t u a _ e _ ht=>by rcases vE e with rfl|⟨d,_,rfl⟩<;>cases ht
theorem A2{n:Nat}{f:FS}(h:fnD np n f ds=some d):ds.length=np/\((∃ρ,f (stE n ds)=some (.rt d ρ))\/(∃xs ρ,f (stE n ds)=some (.rn xs ρ)/\d=.lst xs)\/∃ρ,f (stE n ds)=some (.nx ρ)/\d=.non):=by
 unfold fnD at h;split at h
 ·rename_i hl;refine⟨hl,?_⟩;split at h
  ·rename_i e;cases h;exact .inl ⟨_,e⟩
  ·rename_i e;cases h;exact .inr (.inl ⟨_,_,e,rfl⟩)
  ·rename_i e;cases h;exact .inr (.inr ⟨_,e,rfl⟩)
  ·cases h
 ·cases h
theorem A3{n:Nat}{f:FS}{xs:List D}(h:fnN np n f ds=some xs):ds.length=np/\∃ρ,f (stE n ds)=some (.rn xs ρ):=by
 unfold fnN at h;split at h
 ·rename_i hl;refine⟨hl,?_⟩;split at h
  ·rename_i e;cases h;exact⟨_,e⟩
  ·cases h
 ·cases h
end
variable{E:XK}
theorem Iu{f:FS}{H:Hp}{Q:VK}(hN:np<=N.length)(h:spF G (fnD np N.length f) vs H Q E):tFS G f { nx:=λ_ H'=>Q .non H',rt:=Q } (L2.start N vs) H:=by
 obtain⟨H0,ds,d,s,r,e,k⟩:=h;obtain⟨hl,e'⟩:=A2 e;clear e;have R:=wc (N:=N) s r (by rw[<-nu r,hl];exact hN);have fin:∀{σ':St} {ρ':List Sl} {H0' H':Hp},nM G ⟨H0,H,[]⟩ σ' ρ' H0' H'->nE H H'/\nE H0' H'/\∀b o,H0' b=some o->H0 b=some o\/H b=none:=λR'=>⟨λb o e=>R'.keep b o e (by simp),R'.sub,R'.fr⟩;rcases e' with ⟨ρ,e⟩|⟨xs,ρ,e,rfl⟩|⟨ρ,e,rfl⟩
 ·refine⟨_,_,H0,_,R,e,λv σ' H0' H' s' R' rv=>?_,λ_=>rfl⟩;obtain⟨h1,h2,h3⟩:=fin R';exact k v H0' H' s' h2 h1 h3 rv
 ·refine⟨_,_,H0,_,R,e,λp ys σ' H0' H' s' R' hp h0 hb ap rs=>?_,λ_=>rfl⟩;have R2:=R'.freeze hp h0 hb ap;obtain⟨h1,h2,h3⟩:=fin R2;exact k _ _ H' (s'.trans (nQ h0 _)) h2 h1 h3 (r9 nI (ny.mono (nQ h0 _) _ _ rs))
 ·refine⟨_,_,H0,_,R,e,λσ' H0' H' s' R'=>?_,λ_=>rfl⟩;obtain⟨h1,h2,h3⟩:=fin R';exact k _ H0' H' s' h2 h1 h3 vB
theorem Iv{f:FS}{H:Hp}{Q:VK}(hN:np<=N.length)(h:spN G (fnN np N.length f) vs H Q E):tFS G f { nx:=λ_ H'=>Q .non H',rt:=Q } (L2.start N vs) H:=by obtain⟨H0,ds,d,s,r,e,k⟩:=h;obtain⟨hl,ρ,e⟩:=A3 e;have R:=wc (N:=N) s r (by rw[<-nu r,hl];exact hN);refine⟨_,_,H0,_,R,e,λp ys σ' H0' H' s' R' hp h0 hb ap rs=>?_,λ_=>rfl⟩;exact k p ys H0' H' s' R'.sub (λb o e=>R'.keep b o e (by simp)) R'.fr hb hp h0 rs
theorem OK{g:List D->Option D}(hg:∀ds d,g ds=some d->ds.length=np):∀vs H Q E,spF G g vs H Q E->vs.length=np:=λvs H Q E h=>by obtain⟨H0,ds,d,_,r,e,_⟩:=h;rw[<-nu r];exact hg _ _ e
theorem OL{g:List D->Option (List D)}(hg:∀ds d,g ds=some d->ds.length=np):∀vs H Q E,spN G g vs H Q E->vs.length=np:=λvs H Q E h=>by obtain⟨H0,ds,d,_,r,e,_⟩:=h;rw[<-nu r];exact hg _ _ e
theorem Iw{n:Nat}{f:FS}:∀ds d,fnD np n f ds=some d->ds.length=np:=λ_ _ h=>(A2 h).1
theorem Iy{n:Nat}{f:FS}:∀ds d,fnN np n f ds=some d->ds.length=np:=λ_ _ h=>(A3 h).1
def we{α:Type}(g:List D->Option α)(a:FA):List Sl->Option (α×List Sl):=λρ=>match a ρ with
 |some (ds,ρ')=>match g ds with
  |some d=>some (d,ρ')
  |none=>none
 |none=>none
abbrev nv(g:List D->Option D)(a:FA):FE:=we g a
abbrev oN(g:List D->Option (List D))(a:FA):FA:=we g a
theorem tD{α:Type}{g:List D->Option α}{a:FA}{d:α}(h:we g a ρ=some (d,ρ')):∃ds,a ρ=some (ds,ρ')/\g ds=some d:=by
 unfold we at h;rcases nN (f:=a) (ρ:=ρ)with e1|⟨ds,ρ1,e1⟩<;>simp only[e1]at h
 ·cases h
 ·cases e2:g ds with
  |none=>simp only[e2]at h;cases h
  |some x=>simp only[e2]at h;cases h;exact⟨ds,e1,e2⟩
variable{dvs:List V}{dds:List D}
section
variable{X:Cx}{G:Bg}
theorem IA{g:List D->Option D}{a:FA}(hd:∀H,ny G H dds dvs):∀σ H Q,tF G (nv (λds=>g (ds++dds)) a) σ H Q->tY (spF G g) dvs E (tFA G a) σ H Q:=λσ H Q hh=>by obtain⟨F,ρ,H0,d,ρ',R,e,k⟩:=hh;obtain⟨ds,e1,e2⟩:=tD e;refine⟨F,ρ,H0,ds,ρ',R,e1,λxs H1 H1' s R' rs=>⟨H1,ds++dds,d,R'.sub,o9 rs (hd _),e2,λv H2 H2' s1 s2 s3 fr rv=>?_⟩⟩;exact k v H2 H2' (s.trans s1) (R'.grow s3 s1 s2 fr) rv
theorem IB{g:List D->Option (List D)}{a:FA}(hd:∀H,ny G H dds dvs):∀σ H Q,tFN G (oN (λds=>g (ds++dds)) a) σ H Q->tY (spN G g) dvs E (tFA G a) σ H Q:=λσ H Q hh=>by obtain⟨F,ρ,H0,d,ρ',R,e,k⟩:=hh;obtain⟨ds,e1,e2⟩:=tD e;refine⟨F,ρ,H0,ds,ρ',R,e1,λxs H1 H1' s R' rs=>⟨H1,ds++dds,d,R'.sub,o9 rs (hd _),e2,λp ys H2 H2' s1 s2 s3 fr hn hp h0 rv=>?_⟩⟩;exact k p ys H2 H2' (s.trans s1) (R'.grow s3 s1 s2 fr) hp h0 (R'.bNone hn) (R'.apart hn) rv
end
variable{ff:FE}{ta:TE}{apos:Pos}{c:Nat}
section
variable{X:Cx}{G:Bg}
theorem IC{g:List D->Option D}{a:FA}(hd:∀H,ny G H dds dvs)(h:PE X e (tY (spF G g) dvs E (tFA G a))):PE X e (tF G (nv (λds=>g (ds++dds)) a)):=PE.weak h (IA hd)
theorem Fw{g:List D->Option (List D)}{a:FA}(hd:∀H,ny G H dds dvs)(h:PE X e (tY (spN G g) dvs E (tFA G a))):PE X e (tFN G (oN (λds=>g (ds++dds)) a)):=PE.weak h (IB hd)
theorem Fy{g:List D->Option D}(h:PE X e (tY (spF G g) [] E zK)):PE X e (tF G (nv g n6)):=PE.weak h λσ H Q hh=>by obtain⟨F,ρ,H0,d,ρ',R,e,k⟩:=hh;obtain⟨ds,e1,e2⟩:=tD e;cases e1;exact⟨H0,[],d,R.sub,nY,e2,λv H2 H2' s1 s2 s3 fr rv=>k v H2 H2' s1 (R.grow s3 s1 s2 fr) rv⟩
theorem Ee{g:List D->Option (List D)}(h:PE X e (tY (spN G g) [] E zK)):PE X e (tFN G (oN g n6)):=PE.weak h λσ H Q hh=>by obtain⟨F,ρ,H0,d,ρ',R,e,k⟩:=hh;obtain⟨ds,e1,e2⟩:=tD e;cases e1;exact⟨H0,[],d,R.sub,nY,e2,λp ys H2 H2' s1 s2 s3 fr hn hp h0 rv=>k p ys H2 H2' s1 (R.grow s3 s1 s2 fr) hp h0 (R.bNone hn) (R.apart hn) rv⟩
def Ef:List Str->List D->Str->Option D
 |n::ns,d::ds,f=>if n=f then some d else Ef ns ds f
 |_,_,_=>none
theorem zc{H:Hp}:∀{ns:List Str} {ds:List D} {xs:List V} {f:Str} {d:D},ny G H ds xs->Ef ns ds f=some d->∃v,(ns.zip xs).lookup f=some v/\Rep G H d v
 |[],ds,xs,f,d,r,e=>by simp[Ef]at e
 |n::ns,[],xs,f,d,r,e=>by simp[Ef]at e
 |n::ns,d'::ds,xs,f,d,r,e=>by
  unfold ny at r;obtain⟨v,q,rfl,h1,h2⟩:=r;unfold Ef at e;by_cases hn:n=f
  ·rw[ag hn]at e;cases e;subst hn;exact⟨v,by simp[cA],h1⟩
  ·rw[ai hn]at e;obtain⟨w,e1,e2⟩:=zc h2 e;refine⟨w,?_,e2⟩;have hb:(f==n)=false:=beq_eq_false_iff_ne.mpr λz=>hn z.symm;simp only[du,cA,hb];exact e1
def nR(ok:Nat->Bool)(f:Str):D->Option D
 |.obj c ns ds=>if ok c=true then Ef ns ds f else none
 |_=>none
theorem FB{f:Str}{ok:Nat->Bool}(he:PE X e (tF G ff))(hc:∀c,ok c=true->Cls X.K (G.ca c)/\rJ X.K (G.ca c) f)(hb:dZ e f X.env (eval e X.env)=eval e X.env:=by rfl):PE X (.Attribute e f pos) (tF G (c1 (nR ok f) ff)):=PE.weak (K2 he hb) λσ H Q hh=>by
 obtain⟨F,ρ,H0,d,ρ',R,e,k⟩:=hh;obtain⟨x,e1,e2⟩:=xA e;cases x with
 |obj c ns ds=>
  unfold nR at e2;simp only at e2;split at e2
  ·rename_i hk;refine⟨F,ρ,H0,_,ρ',R,e1,λv H1 H1' s R' r=>?_⟩;unfold Rep at r;obtain⟨a,dx,xs,rfl,h1,h2,h3⟩:=r;obtain⟨w,l1,l2⟩:=zc h3 e2;exact⟨a,_,dx,_,w,rfl,R'.sub _ _ h1,(hc c hk).1,(hc c hk).2,l1,k _ _ _ s R' l2⟩
  ·cases e2
 |_=>cases e2
def MOk(X:Cx)(C:Addr)(m:Str)(sp:Sp)(dvs:List V)(E:XK):Prop:=∃(k:Nat) (f:Addr) (fd:bo) (ps:List Str) (ds:List aa),Cls X.K C/\Meth X.K C m f/\qu X.prog X.w X.K X.mg X.base CX0 k f fd ps sp/\oQ k X.A/\Binds X.K fd ps ds/\Vals dvs ds/\Passes CX0 X E
def qo(g:Nat->Option (List D->Option D))(m:Str)(f:FE)(a:FA):FE:=λρ=>match f ρ with
 |some (.obj c ns ds,ρ1)=>match g c with
  |some h=>if ns.contains m=true then none else match a ρ1 with
   |some (es,ρ2)=>match h (.obj c ns ds::es)with
    |some d=>some (d,ρ2)
    |none=>none
   |none=>none
  |none=>none
 |_=>none
theorem xX{g:Nat->Option (List D->Option D)}{m:Str}{a:FA}(h:qo g m f a ρ=some (d,ρ')):
  ∃c ns ds ρ1 hh es,f ρ=some (.obj c ns ds,ρ1)/\g c=some hh/\ns.contains m=false/\a ρ1=some (es,ρ')/\hh (.obj c ns ds::es)=some d:=by
 unfold qo at h;split at h
 ·rename_i c ns ds ρ1 e1;cases e2:g c with
  |none=>simp only[e2]at h;cases h
  |some hh=>
   simp only[e2]at h;cases e3:ns.contains m with
   |true=>simp only[e3,if_true]at h;cases h
   |false=>
    simp only[e3,fA,if_false]at h;rcases nN (f:=a) (ρ:=ρ1)with e4|⟨es,ρ2,e4⟩<;>simp only[e4]at h
    ·cases h
    ·cases e5:hh (.obj c ns ds::es)with
     |none=>simp only[e5]at h;cases h
     |some x=>simp only[e5]at h;cases h;exact⟨c,ns,ds,ρ1,hh,es,e1,e2,e3,e4,e5⟩
 ·cases h
theorem u4{m:Str}:∀{ns:List Str} {xs:List V},ns.contains m=false->(ns.zip xs).lookup m=none
 |[],xs,h=>rfl
 |n::ns,[],h=>rfl
 |n::ns,x::xs,h=>by rw[jM,jz]at h;simp only[du,cA,h.1];exact u4 h.2
theorem FC{o:Expr}{t:TA}{m:Str}{pl:Sem Bool}(T:Addr->Sp->Prop)(hT:∀C sp,T C sp->MOk X C m sp dvs E)(he:PE X o ta)(ha:PA X (e::es) t)
  (hst:aq (e::es) X.env=(false,eval e X.env)::aq es X.env:=by rfl) (hpl:(aX pos (aq es X.env)).any (·.1)=false:=by rfl)
  (ht:eval (.Call (.Attribute o m apos) (e::es) [] pos) X.env=(do
   let ov<-eval o X.env
   standAt apos.atName
   let (f,first)<-holding [ov] (getMethod ov m pl)
   callWith pos f first (aX pos (aq (e::es) X.env)) (backToKw pos (df [] X.env))):=by rfl):
  PE X (.Call (.Attribute o m apos) (e::es) [] pos) (λσ H Q=>ta σ H λx H1=>∃a C dx fs sp,x=.ref a/\H1 a=some (.ins C dx fs)/\T C sp/\fs.lookup m=none/\t σ H1 λvs H2=>sp (x::(vs++dvs)) H2 Q E):=by
 intro pins s σ H Q I h;refine kh (pl:=pl) (thn (he pins s σ H _ I h) λu s1 zz=>?_) ht;obtain⟨x,H1,I1,rx,a,C,dx,fs,sp,ex,ea,ht,l,q⟩:=zz;obtain⟨k,f,fd,ps,ds,c,hm,F,hr,hb,hd,hx⟩:=hT C sp ht;subst ex;obtain rfl:u=Value.ref a:=rx;refine xK I1 ea c hm l ?_;refine gu (first:=[.ref a]) (h₀:=X.base) I.ok.mod.kin hm.kp (thn (ha pos pins s1 σ H1 _ I1 q) λus s2 ⟨vs,H2,I2,r,q2⟩=>⟨I2.kIn,?_⟩) hst hpl;exact zL (us:=.ref a::us) (vs:=.ref a::vs) F hr hb hd hx I2 (.cons rfl r) q2
theorem Eg{o:Expr}{m:Str}{pl:Sem Bool}(T:Addr->Sp->Prop)(hT:∀C sp,T C sp->MOk X C m sp dvs E)(he:PE X o ta)
  (ht:eval (.Call (.Attribute o m apos) [] [] pos) X.env=(do
   let ov<-eval o X.env
   standAt apos.atName
   let (f,first)<-holding [ov] (getMethod ov m pl)
   callWith pos f first (aX pos (aq [] X.env)) (backToKw pos (df [] X.env))):=by rfl):
  PE X (.Call (.Attribute o m apos) [] [] pos) (λσ H Q=>ta σ H λx H1=>∃a C dx fs sp,x=.ref a/\H1 a=some (.ins C dx fs)/\T C sp/\fs.lookup m=none/\sp (x::dvs) H1 Q E):=by
 intro pins s σ H Q I h;refine kh (pl:=pl) (thn (he pins s σ H _ I h) λu s1 zz=>?_) ht;obtain⟨x,H1,I1,rx,a,C,dx,fs,sp,ex,ea,ht,l,q⟩:=zz;obtain⟨k,f,fd,ps,ds,c,hm,F,hr,hb,hd,hx⟩:=hT C sp ht;subst ex;obtain rfl:u=Value.ref a:=rx;refine xK I1 ea c hm l ?_;exact kF (first:=[.ref a]) I1.kIn hm.kp (zL (us:=[.ref a]) (vs:=[.ref a]) F hr hb hd hx I1 (.cons rfl .nil) q)
def MT(G:Bg)(g:Nat->Option (List D->Option D)):Addr->Sp->Prop:=λC sp=>∃c h,g c=some h/\C=G.ca c/\sp=spF G h
theorem ID{o:Expr}{a:FA}{m:Str}{g:Nat->Option (List D->Option D)}(h:PE X (.Call (.Attribute o m apos) (e::es) [] pos) (λσ H Q=>tF G f σ H λx H1=>∃a' C dx fs sp,x=.ref a'/\H1 a'=some (.ins C dx fs)/\MT G g C sp/\fs.lookup m=none/\tFA G a σ H1 λvs H2=>sp (x::(vs++[])) H2 Q E)):
  PE X (.Call (.Attribute o m apos) (e::es) [] pos) (tF G (qo g m f a)):=PE.weak h λσ H Q hh=>by
 obtain⟨F,ρ,H0,d,ρ',R,e,k⟩:=hh;obtain⟨c,ns,ds,ρ1,hh,es',e1,e2,e3,e4,e5⟩:=xX e;refine⟨F,ρ,H0,_,ρ1,R,e1,λv H1 H1' s R' r=>?_⟩;have r0:=r;unfold Rep at r;obtain⟨a',dx,xs,rfl,h1,h2,h3⟩:=r;refine⟨a',_,dx,_,_,rfl,R'.sub _ _ h1,⟨c,hh,e2,rfl,rfl⟩,u4 e3,F,ρ1,H1,es',ρ',R',e4,λys H2 H2' s2 R2 rs=>?_⟩;show spF G hh (V.ref a'::(ys++[])) H2' Q E;rw[bh];exact⟨H2,_,d,R2.sub,n9 (Rep.mono s2 _ _ r0) rs,e5,λv H3 H3' t1 t2 t3 fr rv=>k v H3 H3' (s.trans (s2.trans t1)) (R2.grow t3 t1 t2 fr) rv⟩
theorem FD{o:Expr}{m:Str}{g:Nat->Option (List D->Option D)}(h:PE X (.Call (.Attribute o m apos) [] [] pos) (λσ H Q=>tF G f σ H λx H1=>∃a' C dx fs sp,x=.ref a'/\H1 a'=some (.ins C dx fs)/\MT G g C sp/\fs.lookup m=none/\sp (x::[]) H1 Q E)):
  PE X (.Call (.Attribute o m apos) [] [] pos) (tF G (qo g m f n6)):=PE.weak h λσ H Q hh=>by
 obtain⟨F,ρ,H0,d,ρ',R,e,k⟩:=hh;obtain⟨c,ns,ds,ρ1,hh,es',e1,e2,e3,e4,e5⟩:=xX e;cases e4;refine⟨F,ρ,H0,_,_,R,e1,λv H1 H1' s R' r=>?_⟩;have r0:=r;unfold Rep at r;obtain⟨a',dx,xs,rfl,h1,h2,h3⟩:=r;refine⟨a',_,dx,_,_,rfl,R'.sub _ _ h1,⟨c,hh,e2,rfl,rfl⟩,u4 e3,?_⟩;exact⟨H1,_,d,R'.sub,n9 r0 nY,e5,λv H3 H3' t1 t2 t3 fr rv=>k v H3 H3' (s.trans t1) (R'.grow t3 t1 t2 fr) rv⟩
def spI(G:Bg)(c:Nat)(g:List D->Option (List Str×List D)):Sp:=λvs H Q _=>∃(p dx:Addr) (us:List V) (H0:Hp) (ds:List D) (ns:List Str) (es:List D),vs=.ref p::us/\H p=some (.ins (G.ca c) dx [])/\H0 p=none/\nE H0 H/\ny G H0 ds us/\g ds=some (ns,es)/\
 ∀ys dx' H0' H',nE H0 H0'->nE H0' H'->(∀b o,H b=some o->b≠p->H' b=some o)->(∀b o,H0' b=some o->H0 b=some o\/H b=none)->H0' p=none->H' p=some (.ins (G.ca c) dx' (ns.zip ys))->ns.length=ys.length->ny G H0' es ys->Q .non H'
def nU(c:Nat)(g:List D->Option (List Str×List D))(a:FA):FE:=λρ=>match a ρ with
 |some (ds,ρ')=>match g ds with
  |some (ns,es)=>some (.obj c ns es,ρ')
  |none=>none
 |none=>none
theorem IE{g:List D->Option (List Str×List D)}{a:FA}(hd:∀H,ny G H dds dvs)(h:PE X e (CC (G.ca c) (spI G c g) dvs E (tFA G a))):PE X e (tF G (nU c (λds=>g (ds++dds)) a)):=PE.weak h λσ H Q hh=>by
 obtain⟨F,ρ,H0,d,ρ',R,e,k⟩:=hh;unfold nU at e;rcases nN (f:=a) (ρ:=ρ)with e1|⟨ds,ρ1,e1⟩<;>simp only[e1]at e
 ·cases e
 ·cases e2:g (ds++dds)with
  |none=>simp only[e2]at e;cases e
  |some q=>
   obtain⟨ns,es⟩:=q;simp only[e2]at e;cases e;refine⟨F,ρ,H0,ds,ρ',R,e1,λxs H1 H1' s R' rs x dx hx hdx ne=>?_⟩;have hx2:(upd H1' dx (.own x)) x=none:=by rw[nH (λz=>ne z.symm)];exact hx
   have sx:nE H1' (upd (upd H1' dx (.own x)) x (.ins (G.ca c) dx [])):=(nQ hdx _).trans (nQ hx2 _);refine⟨x,dx,_,H1,ds++dds,ns,es,rfl,nI,R'.h0none hx,R'.sub.trans sx,o9 rs (hd _),e2,λys dx' H2 H2' t1 t2 t3 fr h0 hp hl ry=>⟨rfl,?_⟩⟩;have t4:nE H1' H2':=λb o e=>t3 b o (sx b o e) (o3 e hx);have fr1:∀b o,H2 b=some o->H1 b=some o\/H1' b=none:=λb o e=>by
    rcases fr b o e with q|q
    ·exact .inl q
    ·cases z:H1' b with
     |none=>exact .inr rfl
     |some u=>rw[sx b u z]at q;cases q
   have R2:=R'.grow t4 t1 t2 fr1;have hb:F.B x=none:=R'.bNone hx;have R3:=R2.freeze hp h0 hb (λi t ei to z=>R'.apart hx i t ei to z);refine k _ _ _ (s.trans (t1.trans (nQ h0 _))) R3 ?_;unfold Rep;exact⟨x,dx',ys,rfl,nI,hl,ny.mono (nQ h0 _) _ _ ry⟩
def oa(c0:Nat)(i:Nat)(f:Str)(ff:FE):FS:=λρ=>match ff ρ with
 |some (d,ρ1)=>match ρ1[i]? with
  |some (.ob c ns ds)=>if c=c0 then if ns.contains f=true then none else if ds.length=ns.length then if ns.length<900 then some (.nx (ρ1.set i (.ob c (ns++[f]) (ds++[d]))))else none else none else none
  |_=>none
 |none=>none
theorem A4{f:Str}{v:V}:∀{ns:List Str} {xs:List V},ns.contains f=false->ns.length=xs.length->sG f v (ns.zip xs)=(ns++[f]).zip (xs++[v])
 |[],[],h,l=>rfl
 |[],x::xs,h,l=>by cases l
 |n::ns,[],h,l=>by cases l
 |n::ns,x::xs,h,l=>by
  rw[jM,jz]at h;have hn:¬n=f:=λz=>by rw[z]at h;simp at h
  have ih:=A4 (f:=f) (v:=v) (ns:=ns) (xs:=xs) h.2 (by simpa using l);show sG f v ((n,x)::ns.zip xs)=_;rw[show sG f v ((n,x)::ns.zip xs)=(if n=f then (n,v)::ns.zip xs else (n,x)::sG f v (ns.zip xs)) from rfl,ai hn,ih];rfl
theorem IF{st:Stmt}{c0:Nat}{f:Str}(h:PS X st (Oq X.K (rW i) (tF G ff) f))(hc:Cls X.K (G.ca c0)/\rJ X.K (G.ca c0) f):PS X st (tFS G (oa c0 i f ff)):=PS.weak h λE σ H hh=>by
 obtain⟨F,ρ,H0,o,R,e,k,k2⟩:=hh;unfold oa at e;rcases nN (f:=ff) (ρ:=ρ)with e1|⟨d,ρ1,e1⟩<;>simp only[e1]at e
 ·cases e
 ·split at e
  ·rename_i c ns ds e2;split at e
   ·rename_i hcc;subst hcc;split at e
    ·cases e
    rename_i hnc;split at e
    ·rename_i hl;split at e
     ·rename_i h9;cases e;refine⟨F,ρ,H0,d,ρ1,R,e1,λv H1 H1' s R' r=>?_⟩;obtain⟨a,dx,xs,e3,e4,e5,e6,e7,e8⟩:=R'.sl i _ e2;refine⟨_,pO e3,a,_,dx,_,rfl,e4,hc.1,hc.2,by rw[fJ];omega,?_⟩;have hnf:ns.contains f=false:=by simpa using hnc
      rw[A4 hnf e7];refine k _ _ _ s (R'.mut e2 rfl e3 (λH' hH=>?_) rfl);exact⟨a,dx,xs++[v],rfl,hH,e5,e6,by rw[aw,aw,e7];rfl,o9 e8 (n9 r nY)⟩
     ·cases e
    ·cases e
   ·cases e
  ·cases e
def stI(c n:Nat)(ds:List D):List Sl:=.ob c [] []::stE (n - 1) ds
def fnI(c np n:Nat)(f:FS):List D->Option (List Str×List D):=λds=>if ds.length=np then match f (stI c n ds)with
 |some (.nx ρ)=>match (ρ:List Sl)[0]? with
  |some (Sl.ob c' ns es)=>if c'=c then if ns.length=es.length then some (ns,es)else none else none
  |_=>none
 |_=>none
 else none
theorem xY{n:Nat}{f:FS}{q:List Str×List D}(h:fnI c np n f ds=some q):ds.length=np/\∃ρ,f (stI c n ds)=some (.nx ρ)/\ρ[0]?=some (.ob c q.1 q.2)/\q.1.length=q.2.length:=by
 unfold fnI at h;split at h
 ·rename_i hl;refine⟨hl,?_⟩;split at h
  ·rename_i ρ e;split at h
   ·rename_i c' ns es e2;split at h
    ·rename_i hc;split at h
     ·rename_i h3;subst hc;cases h;exact⟨ρ,e,e2,h3⟩
     ·cases h
    ·cases h
   ·cases h
  ·cases h
 ·cases h
theorem z6{f:FS}{H:Hp}{Q:VK}(hN:np+1<=N.length)(h:spI G c (fnI c np N.length f) vs H Q E):tFS G f { nx:=λ_ H'=>Q .non H',rt:=Q } (L2.start N vs) H:=by
 obtain⟨p,dx,us,H0,ds,ns,es,rfl,hp,h0,s,r,e,k⟩:=h;obtain⟨hl,ρ,e1,e2,e3⟩:=xY e;have hul:us.length=np:=by rw[<-nu r];exact hl
 have gets:∀{i:Nat} {t:Sl},(stI c N.length ds)[i]?=some t->(i=0/\t=.ob c [] [])\/t=.un\/∃(j:Nat) (d:D),i=j+1/\ds[j]?=some d/\t=.im d:=λ{i t} e=>by
  cases i with
  |zero=>cases e;exact .inl ⟨rfl,rfl⟩
  |succ j=>
   have e':(stE (N.length - 1) ds)[j]?=some t:=e;rcases vE e' with rfl|⟨d,e1,rfl⟩
   ·exact .inr (.inl rfl)
   ·exact .inr (.inr ⟨j,d,rfl,e1,rfl⟩)
 have R:nM G ⟨H0,H,[p]⟩ (L2.start N (.ref p::us)) (stI c N.length ds) H0 H:={
  sub:=s
  g0:=nE.refl _
  keep:=λb o e _=>e
  fr:=λb o e=>.inl e
  am:=λa ha=>by
   have ea:a=p:=by simpa using ha
   subst ea;exact⟨_,hp⟩
  len:=by unfold L2.start stI stE;simp only[aw,af,bO,aD];have:=nu r;omega
  sl:=λi t e=>by
   rcases gets e with ⟨rfl,rfl⟩|rfl|⟨j,d,rfl,e1,rfl⟩
   ·exact⟨p,dx,[],p6 rfl,hp,h0,by simp,rfl,nY⟩
   ·trivial
   ·obtain⟨v,e2,e3⟩:=qx r e1;exact⟨v,p6 (by simpa using e2),e3⟩
  ap:=λi j t u a hij ei ej ht hu=>by
   rcases gets ei with ⟨rfl,rfl⟩|rfl|⟨_,_,_,_,rfl⟩
   ·rcases gets ej with ⟨rfl,rfl⟩|rfl|⟨_,_,_,_,rfl⟩
    ·exact ak rfl hij
    ·cases hu
    ·cases hu
   ·cases ht
   ·cases ht }
 refine⟨_,_,H0,_,R,e1,λσ' H0' H' s' R'=>?_,λ_=>rfl⟩;obtain⟨a,dx',ys,q1,q2,q3,q4,q5,q6⟩:=R'.sl 0 _ e2;have ea:a=p:=by simpa using q4
 subst ea;exact k ys dx' H0' H' s' R'.sub (λb o e n=>R'.keep b o e (by simpa using n)) R'.fr q3 q2 q5 q6
end
def Sl.L:Sl->Option (List D)
 |.ls ds=>some ds
 |.pm ds=>some ds
 |_=>none
def Sl.putL:Sl->List D->Sl
 |.pm _,ds=>.pm ds
 |_,ds=>.ls ds
theorem Sl.L_own{s:Sl}(h:s.L=some ds):s.own=true:=by cases s<;>first|rfl|cases h
theorem Sl.putL_L{s:Sl}:(s.putL ds).L=some ds:=by cases s<;>rfl
section
variable{G:Bg}{F:Fr}{σ:St}{ρ:List Sl}{H0 H:Hp}
theorem yQ.lst{o:Option V}{s:Sl}{ds:List D}(h:yQ G F H0 H o s)(e:s.L=some ds):∃a xs,o=some (.ref a)/\H a=some (.lst xs)/\H0 a=none/\ny G H0 ds xs:=by
 cases s with
 |ls ds'=>cases e;obtain⟨a,xs,h1,h2,h3,h4,h5⟩:=h;exact⟨a,xs,h1,h2,h3,h5⟩
 |pm ds'=>cases e;obtain⟨a,xs,h1,h2,h3,h4,h5⟩:=h;exact⟨a,xs,h1,h2,h3,h5⟩
 |_=>cases e
theorem nM.mutL(R:nM G F σ ρ H0 H){s:Sl}{ds':List D}{xs':List V}(hi:ρ[i]?=some s)(hs:s.L=some ds)(ha:(σ[i]?).join=some (.ref a))(r:ny G H0 ds' xs'):
  nM G F σ (ρ.set i (s.putL ds')) H0 (upd H a (.lst xs')):=by
 have ok:=R.sl i s hi;rw[ha]at ok;refine R.mut hi (Sl.L_own hs) ha (λH' hH=>?_) (Sl.L_own Sl.putL_L);cases s with
 |ls ds0=>obtain⟨b,xs,h1,h2,h3,h4,h5⟩:=ok;cases h1;exact⟨a,xs',rfl,hH,h3,h4,r⟩
 |pm ds0=>obtain⟨b,xs,h1,h2,h3,h4,h5⟩:=ok;cases h1;exact⟨a,xs',rfl,hH,h3,h4,r⟩
 |_=>cases hs
end
def oM(ρ:List Sl)(i:Nat):Option (List D):=match ρ[i]? with
 |some s=>s.L
 |none=>none
theorem qp(h:oM ρ i=some ds):∃s,ρ[i]?=some s/\s.L=some ds:=by
 unfold oM at h;cases e:ρ[i]? with
 |none=>rw[e]at h;cases h
 |some s=>rw[e]at h;exact⟨s,rfl,h⟩
def putAt(ρ:List Sl)(i:Nat)(ds:List D):List Sl:=match ρ[i]? with
 |some s=>ρ.set i (s.putL ds)
 |none=>ρ
def uM(i:Nat)(f:FE):FE:=λρ=>match oM ρ i with
 |some _=>match f ρ with
  |some (d,ρ1)=>match oM ρ1 i with
   |some ds=>if ds.length<1000 then some (.non,putAt ρ1 i (ds++[d]))else none
   |none=>none
  |none=>none
 |none=>none
section
variable{X:Cx}{G:Bg}
theorem pF{H:Hp}(R:nM G F σ ρ H0 H)(h:oM ρ i=some ds):∃a xs,σ[i]?=some (some (.ref a))/\H a=some (.lst xs)/\ny G H0 ds xs/\
  (∀ds' xs',ny G H0 ds' xs'->nM G F σ (putAt ρ i ds') H0 (upd H a (.lst xs'))):=by
 obtain⟨s,e1,e2⟩:=qp h;obtain⟨a,xs,e3,e4,e5,e6⟩:=(R.sl i s e1).lst e2;refine⟨a,xs,pO e3,e4,e6,λds' xs' r=>?_⟩;unfold putAt;rw[e1];exact R.mutL e1 e2 e3 r
theorem Ei(h:PE X e (tBM G.K "list" zT (rW i) (tFA G (aCons f n6)))):PE X e (tF G (uM i f)):=PE.weak h λσ H Q hh=>by
 obtain⟨F,ρ,H0,d,ρ',R,e,k⟩:=hh;unfold uM at e;cases e0:oM ρ i with
 |none=>simp only[e0]at e;cases e
 |some ds0=>
  simp only[e0]at e;rcases nN (f:=f) (ρ:=ρ)with e1|⟨x,ρ1,e1⟩<;>simp only[e1]at e
  ·cases e
  ·cases e2:oM ρ1 i with
   |none=>simp only[e2]at e;cases e
   |some ds=>
    simp only[e2]at e;split at e
    ·rename_i hl;cases e;obtain⟨a,xs,s1,s2,s3,_⟩:=pF R e0;refine⟨.ref a,s1,.inl ⟨rfl,xs,SqL.of s2⟩,F,ρ,H0,[x],ρ1,R,by unfold aCons;rw[e1];rfl,λys H1 H1' s R' rs=>?_⟩;unfold ny at rs;obtain⟨v,r0,rfl,rv,rn⟩:=rs;unfold ny at rn;subst rn;obtain⟨a',xs',t1,t2,t3,t4⟩:=pF R' e2;rw[s1]at t1;cases t1;exact⟨a,xs',v,rfl,rfl,t2,by rw[<-nu t3];exact uG (by omega),k _ _ _ s (t4 _ _ (o9 t3 (n9 rv nY))) vB⟩
    ·cases e
def IG(i:Nat)(f:FA):FE:=λρ=>match oM ρ i with
 |some _=>match f ρ with
  |some (es,ρ1)=>match oM ρ1 i with
   |some ds=>if ds.length+es.length<=1000 then some (.non,putAt ρ1 i (ds++es))else none
   |none=>none
  |none=>none
 |none=>none
theorem Ej{f:FA}(h:PE X e (tBM G.K "list" CK (rW i) (xM (tFN G f) zK))):PE X e (tF G (IG i f)):=PE.weak h λσ H Q hh=>by
 obtain⟨F,ρ,H0,d,ρ',R,e,k⟩:=hh;unfold IG at e;cases e0:oM ρ i with
 |none=>simp only[e0]at e;cases e
 |some ds0=>
  simp only[e0]at e;rcases nN (f:=f) (ρ:=ρ)with e1|⟨x,ρ1,e1⟩<;>simp only[e1]at e
  ·cases e
  ·cases e2:oM ρ1 i with
   |none=>simp only[e2]at e;cases e
   |some ds=>
    simp only[e2]at e;split at e
    ·rename_i hl;cases e;obtain⟨a,xs,s1,s2,s3,_⟩:=pF R e0;refine⟨.ref a,s1,.inl ⟨rfl,xs,SqL.of s2⟩,F,ρ,H0,x,ρ1,R,e1,λp ys H1 H1' s R' hp h0 hb ap rs=>?_⟩;obtain⟨a',xs',t1,t2,t3,t4⟩:=pF R' e2;rw[s1]at t1;cases t1;refine⟨a,p,xs',ys,rfl,rfl,t2,hp,?_,k _ _ _ s (t4 _ _ (o9 t3 rs)) vB⟩;rw[<-nu t3,<- nu rs];exact qM hl
    ·cases e
def Qg(i:Nat):FE:=λρ=>match oM ρ i with
 |some (d::ds)=>some (d,putAt ρ i ds)
 |_=>none
theorem vF{i:Int}(r:ny G H0 ds xs)(h:atI ds i=some d):∃v,atI xs i=some v/\Rep G H0 d v:=by
 unfold atI at h ⊢;rw[<-nu r];cases e:ixN ds.length i with
 |none=>rw[e]at h;cases h
 |some j=>rw[e]at h;exact qx r h
def wg(i:Nat)(f:FE):FE:=λρ=>match oM ρ i with
 |some _=>match f ρ with
  |some (.int j,ρ1)=>match oM ρ1 i with
   |some ds=>match atI ds j with
    |some d=>some (d,ρ1)
    |none=>none
   |none=>none
  |_=>none
 |none=>none
theorem Lu(h:PE X e (tOp (HJ G.K) (rW i) (tF G f))):PE X e (tF G (wg i f)):=PE.weak h λσ H Q hh=>by
 obtain⟨F,ρ,H0,d,ρ',R,e,k⟩:=hh;unfold wg at e;cases e9:oM ρ i with
 |none=>simp only[e9]at e;cases e
 |some ds9=>
  simp only[e9]at e;obtain⟨a9,xs9,ev,_⟩:=pF R e9;split at e
  ·rename_i j ρ1 e1;cases e0:oM ρ1 i with
   |none=>simp only[e0]at e;cases e
   |some ds=>
    simp only[e0]at e;cases e2:atI ds j with
    |none=>simp only[e2]at e;cases e
    |some x=>simp only[e2]at e;cases e;refine⟨.ref a9,ev,F,ρ,H0,_,_,R,e1,λu H1 H1' s R' r=>?_⟩;unfold Rep at r;subst r;obtain⟨a,xs,s1,s2,s3,s4⟩:=pF R' e0;rw[ev]at s1;cases s1;obtain⟨w,w1,w2⟩:=vF s3 e2;exact⟨_,xs,j,w,rfl,rfl,SqL.of s2,w1,k _ _ _ s R' w2⟩
  ·cases e
def cFz(i:Nat):FE:=λρ=>match ρ[i]? with
 |some (.ls ds)=>some (.lst ds,ρ.set i (.im (.lst ds)))
 |some (.dk ks ds)=>some (.dic ks ds,ρ.set i (.im (.dic ks ds)))
 |some (.im d)=>some (d,ρ)
 |_=>none
theorem nM.toIm{H:Hp}(R:nM G F σ ρ H0 H){s:Sl}{o:HO}(hi:ρ[i]?=some s)(hs:(σ[i]?).join=some (.ref p))(so:s.own=true)(hp:H p=some o)(h0:H0 p=none)(hb:F.B p=none)(r:Rep G (upd H0 p o) d (.ref p)):
  nM G F σ (ρ.set i (.im d)) (upd H0 p o) H where
 sub:=λb u e=>by
  by_cases hb:b=p
  ·subst hb;rw[nI]at e;cases e;exact hp
  ·rw[nH hb]at e;exact R.sub _ _ e
 g0:=R.g0.trans (nQ h0 o)
 keep:=R.keep
 fr:=λb u e=>by
  by_cases hb':b=p
  ·subst hb';exact .inr hb
  ·rw[nH hb']at e;exact R.fr _ _ e
 am:=R.am
 len:=by rw[cZ];exact R.len
 sl:=λj t e=>by
  rw[bC]at e;by_cases h:i=j
  ·subst h;rw[ag rfl]at e;split at e
   ·cases e;exact⟨_,hs,r⟩
   ·cases e
  ·rw[ai h]at e;refine(R.sl j t e).grow (nQ h0 o) (λa u _ _ q=>q) λa u z to q q0=>?_;rw[nH (λy=>by subst y;exact R.ap j i t s a (λy=>h y.symm) e hi to so z hs)];exact q0
 ap:=λj k t u b hjk ej ek tj tk vj vk=>by
  have gen:∀{m:Nat} {x:Sl},(ρ.set i (.im d))[m]?=some x->x.own=true->ρ[m]?=some x:=λ{m x} e xo=>by
   rw[bC]at e;by_cases h:i=m
   ·subst h;rw[ag rfl]at e;split at e
    ·cases e;cases xo
    ·cases e
   ·rw[ai h]at e;exact e
  exact R.ap j k t u b hjk (gen ej tj) (gen ek tk) tj tk vj vk
theorem nM.toImD{H:Hp}(R:nM G F σ ρ H0 H){s:Sl}{o:HO}(hi:ρ[i]?=some s)(hs:(σ[i]?).join=some (.ref p))(so:s.own=true)(h0:H0 p=none)(hb:F.B p=none)(r:Rep G (upd H0 p o) d (.ref p)):
  nM G F σ (ρ.set i (.im d)) (upd H0 p o) (upd H p o) where
 sub:=λb u e=>by
  by_cases hb:b=p
  ·subst hb;rw[nI]at e ⊢;exact e
  ·rw[nH hb]at e ⊢;exact R.sub _ _ e
 g0:=R.g0.trans (nQ h0 o)
 keep:=λb u e n=>by rw[nH (λz=>by subst z;rw[hb]at e;cases e)];exact R.keep b u e n
 fr:=λb u e=>by
  by_cases hb':b=p
  ·subst hb';exact .inr hb
  ·rw[nH hb']at e;exact R.fr _ _ e
 am:=λb hm=>by
  by_cases hb':b=p
  ·subst hb';exact⟨o,nI⟩
  ·rw[nH hb'];exact R.am b hm
 len:=by rw[cZ];exact R.len
 sl:=λj t e=>by
  rw[bC]at e;by_cases h:i=j
  ·subst h;rw[ag rfl]at e;split at e
   ·cases e;exact⟨_,hs,r⟩
   ·cases e
  ·rw[ai h]at e;refine(R.sl j t e).grow (nQ h0 o) (λa u z to q=>?_) λa u z to q q0=>?_
   ·rw[nH (λy=>by subst y;exact R.ap j i t s a (λy=>h y.symm) e hi to so z hs)];exact q
   ·rw[nH (λy=>by subst y;exact R.ap j i t s a (λy=>h y.symm) e hi to so z hs)];exact q0
 ap:=λj k t u b hjk ej ek tj tk vj vk=>by
  have gen:∀{m:Nat} {x:Sl},(ρ.set i (.im d))[m]?=some x->x.own=true->ρ[m]?=some x:=λ{m x} e xo=>by
   rw[bC]at e;by_cases h:i=m
   ·subst h;rw[ag rfl]at e;split at e
    ·cases e;cases xo
    ·cases e
   ·rw[ai h]at e;exact e
  exact R.ap j k t u b hjk (gen ej tj) (gen ek tk) tj tk vj vk
theorem OM(h:PE X e (rW i)):PE X e (tF G (cFz i)):=PE.weak (PE.ghost h) λσ H Q hh=>by
 obtain⟨F,ρ,H0,d,ρ',R,e,k⟩:=hh;unfold cFz at e;split at e
 ·rename_i ds e0;cases e;obtain⟨a,xs,h1,h2,h3,h4,h5⟩:=R.sl i _ e0;have rr:Rep G (upd H0 a (.lst xs)) (.lst ds) (.ref a):=r9 nI (ny.mono (nQ h3 _) _ _ h5);exact⟨_,pO h1,.inl (k _ _ _ (nQ h3 _) (R.toIm e0 h1 rfl h2 h3 h4 rr) rr)⟩
 ·rename_i ks ds e0;cases e;obtain⟨a,xs,h1,h2,h3,h4,h5,h6⟩:=R.sl i _ e0;refine⟨_,pO h1,.inr ⟨a,_,h2,λo=>?_⟩⟩;have rr:Rep G (upd H0 a (.frz o (.dK (ks.zip xs)))) (.dic ks ds) (.ref a):=by unfold Rep;exact⟨a,o,xs,rfl,nI,h5,ny.mono (nQ h3 _) _ _ h6⟩
  exact k _ _ _ (nQ h3 _) (R.toImD e0 h1 rfl h3 h4 rr) rr
 ·rename_i d' e0;cases e;obtain⟨v,e2,e3⟩:=R.sl i _ e0;exact⟨v,pO e2,.inl (k _ _ _ (nE.refl _) R e3)⟩
 ·cases e
def IH(i:Nat):FA:=λρ=>match ρ[i]? with
 |some (.ls ds)=>some (ds,ρ.set i .un)
 |_=>none
theorem II(h:PE X e (rW i)):PE X e (tFN G (IH i)):=PE.weak h λσ H Q hh=>by
 obtain⟨F,ρ,H0,d,ρ',R,e,k⟩:=hh;unfold IH at e;split at e
 ·rename_i ds e0;cases e;obtain⟨a,xs,h1,h2,h3,h4,h5⟩:=R.sl i _ e0;have gen:∀{m:Nat} {x:Sl},(ρ.set i .un)[m]?=some x->x.own=true->m≠i/\ρ[m]?=some x:=λ{m x} e xo=>by
   rw[bC]at e;by_cases h:i=m
   ·subst h;rw[ag rfl]at e;split at e
    ·cases e;cases xo
    ·cases e
   ·rw[ai h]at e;exact⟨λz=>h z.symm,e⟩
  have R':nM G F σ (ρ.set i .un) H0 H:={
   sub:=R.sub,g0:=R.g0,keep:=R.keep,fr:=R.fr,am:=R.am
   len:=by rw[cZ];exact R.len
   sl:=λj t e=>by
    rw[bC]at e;by_cases h:i=j
    ·subst h;rw[ag rfl]at e;split at e
     ·cases e;trivial
     ·cases e
    ·rw[ai h]at e;exact R.sl j t e
   ap:=λj k t u b hjk ej ek tj tk vj vk=>R.ap j k t u b hjk (gen ej tj).2 (gen ek tk).2 tj tk vj vk }
  refine⟨_,pO h1,k a xs _ _ (nE.refl _) R' h2 h3 h4 (λj t ej to z=>?_) h5⟩;obtain⟨nj,ej'⟩:=gen ej to;exact R.ap j i t _ a nj ej' e0 to rfl z h1
 ·cases e
end
def spM(G:Bg)(g:List D->List D->Option (D×List D)):Sp:=λvs H Q _=>∃(a:Addr) (us xs:List V) (H0:Hp) (es ds:List D) (d:D) (es':List D),vs=.ref a::us/\H a=some (.lst xs)/\H0 a=none/\nE H0 H/\ny G H0 es xs/\ny G H0 ds us/\g es ds=some (d,es')/\
 ∀v xs' H0' H',nE H0 H0'->nE H0' H'->(∀b o,H b=some o->b≠a->H' b=some o)->(∀b o,H0' b=some o->H0 b=some o\/H b=none)->H0' a=none->H' a=some (.lst xs')->ny G H0' es' xs'->Rep G H0' d v->Q v H'
def stM(n:Nat)(es ds:List D):List Sl:=.pm es::stE (n - 1) ds
def vG(ρ:List Sl):Option (List D):=match ρ with
 |.pm es::_=>some es
 |_=>none
def fnM(np n:Nat)(f:FS):List D->List D->Option (D×List D):=λes ds=>if ds.length=np then match f (stM n es ds)with
 |some (.rt d ρ)=>match vG ρ with
  |some es'=>some (d,es')
  |none=>none
 |some (.rn xs ρ)=>match vG ρ with
  |some es'=>some (.lst xs,es')
  |none=>none
 |_=>none
 else none
theorem xZ{es:List D}(h:vG ρ=some es):ρ[0]?=some (.pm es):=by
 unfold vG at h;split at h
 ·cases h;rfl
 ·cases h
variable{es':List D}
theorem A5{n:Nat}{f:FS}{es:List D}(h:fnM np n f es ds=some (d,es')):ds.length=np/\((∃ρ,f (stM n es ds)=some (.rt d ρ)/\ρ[0]?=some (.pm es'))\/∃xs ρ,f (stM n es ds)=some (.rn xs ρ)/\ρ[0]?=some (.pm es')/\d=.lst xs):=by
 unfold fnM at h;split at h
 ·rename_i hl;refine⟨hl,?_⟩;split at h
  ·rename_i x ρ e;cases e2:vG ρ with
   |none=>simp only[e2]at h;cases h
   |some q=>simp only[e2]at h;cases h;exact .inl ⟨ρ,e,xZ e2⟩
  ·rename_i x ρ e;cases e2:vG ρ with
   |none=>simp only[e2]at h;cases h
   |some q=>simp only[e2]at h;cases h;exact .inr ⟨x,ρ,e,xZ e2,rfl⟩
  ·cases h
 ·cases h
variable{b:FS}
section
variable{X:Cx}{G:Bg}
theorem IJ{f:FS}{H:Hp}{Q:VK}(hN:np+1<=N.length)(h:spM G (fnM np N.length f) vs H Q E):tFS G f { nx:=λ_ H'=>Q .non H',rt:=Q } (L2.start N vs) H:=by
 obtain⟨a,us,xs,H0,es,ds,d,es',rfl,ha,h0,s,r1,r,e,k⟩:=h;obtain⟨hl,e1⟩:=A5 e;have hul:us.length=np:=by rw[<-nu r];exact hl
 have gets:∀{i:Nat} {t:Sl},(stM N.length es ds)[i]?=some t->(i=0/\t=.pm es)\/t=.un\/∃(j:Nat) (d:D),i=j+1/\ds[j]?=some d/\t=.im d:=λ{i t} e=>by
  cases i with
  |zero=>cases e;exact .inl ⟨rfl,rfl⟩
  |succ j=>
   have e':(stE (N.length - 1) ds)[j]?=some t:=e;rcases vE e' with rfl|⟨d,e1,rfl⟩
   ·exact .inr (.inl rfl)
   ·exact .inr (.inr ⟨j,d,rfl,e1,rfl⟩)
 have R:nM G ⟨H0,H,[a]⟩ (L2.start N (.ref a::us)) (stM N.length es ds) H0 H:={
  sub:=s
  g0:=nE.refl _
  keep:=λb o e _=>e
  fr:=λb o e=>.inl e
  am:=λb hb=>by
   have eb:b=a:=by simpa using hb
   subst eb;exact⟨_,ha⟩
  len:=by unfold L2.start stM stE;simp only[aw,af,bO,aD];have:=nu r;omega
  sl:=λi t e=>by
   rcases gets e with ⟨rfl,rfl⟩|rfl|⟨j,d,rfl,e1,rfl⟩
   ·exact⟨a,xs,p6 rfl,ha,h0,by simp,r1⟩
   ·trivial
   ·obtain⟨v,e2,e3⟩:=qx r e1;exact⟨v,p6 (by simpa using e2),e3⟩
  ap:=λi j t u b hij ei ej ht hu=>by
   rcases gets ei with ⟨rfl,rfl⟩|rfl|⟨_,_,_,_,rfl⟩
   ·rcases gets ej with ⟨rfl,rfl⟩|rfl|⟨_,_,_,_,rfl⟩
    ·exact ak rfl hij
    ·cases hu
    ·cases hu
   ·cases ht
   ·cases ht }
 have fin:∀{v:V} {σ':St} {ρ':List Sl} {H0' H':Hp},nE H0 H0'->nM G ⟨H0,H,[a]⟩ σ' ρ' H0' H'->ρ'[0]?=some (.pm es')->Rep G H0' d v->Q v H':=λs' R' e2 rv=>by
  obtain⟨a',ys,q1,q2,q3,q4,q5⟩:=R'.sl 0 _ e2;have ea:a'=a:=by simpa using q4
  subst ea;exact k _ ys _ _ s' R'.sub (λb o e n=>R'.keep b o e (by simpa using n)) R'.fr q3 q2 q5 rv
 rcases e1 with ⟨ρ,e1,e2⟩|⟨zs,ρ,e1,e2,rfl⟩
 ·exact⟨_,_,H0,_,R,e1,λv σ' H0' H' s' R' rv=>fin s' R' e2 rv,λ_=>rfl⟩
 ·refine⟨_,_,H0,_,R,e1,λp ys σ' H0' H' s' R' hp hp0 hb ap rs=>?_,λ_=>rfl⟩;exact fin (s'.trans (nQ hp0 _)) (R'.freeze hp hp0 hb ap) e2 (r9 nI (ny.mono (nQ hp0 _) _ _ rs))
theorem J4{g:List D->List D->Option (D×List D)}(hg:∀es ds d,g es ds=some d->ds.length=np):∀vs H Q E,spM G g vs H Q E->vs.length=np+1:=λvs H Q E h=>by obtain⟨a,us,xs,H0,es,ds,d,es',rfl,_,_,_,_,r,e,_⟩:=h;rw[aD,<- nu r,hg _ _ _ e]
theorem IK{n:Nat}{f:FS}:∀es ds d,fnM np n f es ds=some d->ds.length=np:=λ_ _ d h=>(A5 (d:=d.1) (es':=d.2) h).1
theorem nM.call1{H:Hp}(R:nM G F σ ρ H0 H){s:Sl}{es:List D}{b:Addr}{zs:List V}(hi:ρ[i]?=some s)(hs:s.L=some es)(hb:(σ[i]?).join=some (.ref b))
  (s1:nE H0 H0') (s2:nE H0' H') (s3:∀c o,H c=some o->c≠b->H' c=some o) (fr:∀c o,H0' c=some o->H0 c=some o\/H c=none) (h0:H0' b=none) (hz:H' b=some (.lst zs)) (r:ny G H0' es' zs):
  nM G F σ (ρ.set i (s.putL es')) H0' H':=by
 have so:=Sl.L_own hs;obtain⟨b',u,e1,e2,e3,e4⟩:=(R.sl i s hi).at so;rw[hb]at e1;cases e1;exact {
  sub:=s2
  g0:=R.g0.trans s1
  keep:=λc o e n=>by
   refine s3 c o (R.keep c o e n) λz=>?_;subst z;rcases e4 with q|q
   ·rw[q]at e;cases e
   ·exact n q
  fr:=λc o e=>by
   rcases fr c o e with q|q
   ·exact R.fr c o q
   ·exact .inr (R.bNone q)
  am:=λc hc=>by
   by_cases z:c=b
   ·subst z;exact⟨_,hz⟩
   ·obtain⟨o,q⟩:=R.am c hc;exact⟨o,s3 c o q z⟩
  len:=by rw[cZ];exact R.len
  sl:=λj t e=>by
   rw[bC]at e;by_cases h:i=j
   ·subst h;rw[ag rfl]at e;split at e
    ·cases e;rw[hb];have ok:=R.sl i s hi;rw[hb]at ok;cases s with
     |ls ds0=>obtain⟨c,xs,h1,h2,h3,h4,h5⟩:=ok;cases h1;exact⟨b,zs,rfl,hz,h0,h4,r⟩
     |pm ds0=>obtain⟨c,xs,h1,h2,h3,h4,h5⟩:=ok;cases h1;exact⟨b,zs,rfl,hz,h0,h4,r⟩
     |_=>cases hs
    ·cases e
   ·rw[ai h]at e;refine(R.sl j t e).grow s1 (λc w z to q=>s3 c w q λy=>?_) λc w z to q q0=>?_
    ·subst y;exact R.ap j i t s c (λy=>h y.symm) e hi to so z hb
    ·cases y:H0' c with
     |none=>rfl
     |some o=>
      rcases fr c o y with x|x
      ·rw[x]at q0;cases q0
      ·rw[x]at q;cases q
  ap:=λj k t u c hjk ej ek tj tk vj vk=>by
   have gen:∀{m:Nat} {x:Sl},(ρ.set i (s.putL es'))[m]?=some x->∃y,ρ[m]?=some y/\(x.own=true->y.own=true):=λ{m x} e=>by
    rw[bC]at e;by_cases h:i=m
    ·subst h;exact⟨s,hi,λ_=>so⟩
    ·rw[ai h]at e;exact⟨x,e,λq=>q⟩
   obtain⟨y,ey,oy⟩:=gen ej;obtain⟨z,ez,oz⟩:=gen ek;exact R.ap j k y z c hjk ey ez (oy tj) (oz tk) vj vk }
def p7(g:List D->List D->Option (D×List D))(i:Nat)(a:FA):FE:=λρ=>match oM ρ i with
 |some _=>match a ρ with
  |some (ds,ρ1)=>match oM ρ1 i with
   |some es=>match g es ds with
    |some (d,es')=>some (d,putAt ρ1 i es')
    |none=>none
   |none=>none
  |none=>none
 |none=>none
theorem Lv{g:List D->List D->Option (D×List D)}{a:FA}(h:PE X e (tY (spM G g) [] E (xM (rW i) (tFA G a)))):PE X e (tF G (p7 g i a)):=PE.weak h λσ H Q hh=>by
 obtain⟨F,ρ,H0,d,ρ',R,e,k⟩:=hh;unfold p7 at e;cases e0:oM ρ i with
 |none=>simp only[e0]at e;cases e
 |some ds0=>
  simp only[e0]at e;rcases nN (f:=a) (ρ:=ρ)with e1|⟨ds,ρ1,e1⟩<;>simp only[e1]at e
  ·cases e
  ·cases e2:oM ρ1 i with
   |none=>simp only[e2]at e;cases e
   |some es=>
    simp only[e2]at e;cases e3:g es ds with
    |none=>simp only[e3]at e;cases e
    |some q=>
     obtain⟨d1,es'⟩:=q;simp only[e3]at e;cases e;obtain⟨b,xs,s1,s2,s3,_⟩:=pF R e0;refine⟨.ref b,s1,F,ρ,H0,ds,ρ1,R,e1,λys H1 H1' s R' rs=>?_⟩;obtain⟨s,es0,es1⟩:=qp e2;obtain⟨b',xs',t1,t2,t3,t4⟩:=(R'.sl i s es0).lst es1;rw[pO t1]at s1;cases s1;refine⟨b,ys,xs',H1,es,ds,d,es',?_,t2,t3,R'.sub,t4,rs,e3,λv zs H2 H2' u1 u2 u3 fr w0 w1 w2 w3=>?_⟩
     ·show V.ref b::ys++[]=_;rw[bh]
     ·refine k _ _ _ (nE.trans ‹nE H0 H1› u1) ?_ w3;unfold putAt;rw[es0];exact R'.call1 es0 es1 t1 u1 u2 u3 fr w0 w1 w2
def Walk(G:Bg)(J:It)(ds:List D)(H0:Hp):Prop:=∀(i:Nat) (H1 H1':Hp),nE H0 H1->nE H1 H1'->
 (∀d,ds[i]?=some d->J.go i H1'/\∀x H2',J.yld i H1' x H2'->∃H2,nE H1 H2/\nE H2 H2'/\nE H1' H2'/\(∀b o,H2 b=some o->H1 b=some o\/H1' b=none)/\Rep G H2 d x)/\(i=ds.length->J.stop i H1')
def tFI(G:Bg)(f:FA):TI:=λσ H R=>∃F ρ H0 ds ρ',nM G F σ ρ H0 H/\f ρ=some (ds,ρ')/\∀J H0' H',nE H0 H0'->nM G F σ ρ' H0' H'->Walk G J ds H0'->R J H'
theorem PI.weak{t t':TI}(h:PI X tg e t)(w:∀σ H R,t' σ H R->t σ H R):PI X tg e t':=λpins s σ H R I hq=>h pins s σ H R I (w _ _ _ hq)
theorem x6(h:SqL G.K H0 a xs)(r:ny G H0 ds xs):Walk G (Itl G.K a) ds H0:=λi H1 H1' s s'=>by have h1:SqL G.K H1' a xs:=(s.trans s').seq h;refine⟨λd e=>?_,λhl=>⟨xs,h1,by rw[<-nu r,hl];exact aA _⟩⟩;obtain⟨v,e1,e2⟩:=qx r e;refine⟨⟨xs,v,h1,e1⟩,λx H2' y=>?_⟩;obtain⟨e3,e4⟩:=y;have e5:=e4 xs h1;rw[e1]at e5;cases e5;subst e3;exact⟨H1,nE.refl _,s',nE.refl _,λb o e=>.inl e,Rep.mono s _ _ e2⟩
theorem FH(h:SqT G.K H0 a xs)(r:ny G H0 ds xs):Walk G (Itt G.K a) ds H0:=λi H1 H1' s s'=>by have h1:SqT G.K H1' a xs:=SqT.mono (s.trans s') h;refine⟨λd e=>?_,λhl=>⟨xs,h1,by rw[<-nu r,hl];exact aA _⟩⟩;obtain⟨v,e1,e2⟩:=qx r e;refine⟨⟨xs,v,h1,e1⟩,λx H2' y=>?_⟩;obtain⟨e3,e4⟩:=y;have e5:=e4 xs h1;rw[e1]at e5;cases e5;subst e3;exact⟨H1,nE.refl _,s',nE.refl _,λb o e=>.inl e,Rep.mono s _ _ e2⟩
def iL(f:FE):FA:=λρ=>match f ρ with
 |some (.lst ds,ρ')=>some (ds,ρ')
 |some (.fzl ds,ρ')=>some (ds,ρ')
 |_=>none
def iT(f:FE):FA:=λρ=>match f ρ with
 |some (.tup ds,ρ')=>some (ds,ρ')
 |_=>none
theorem A6(h:PI X tg e (EU G.K (tF G f))):PI X tg e (tFI G (iL f)):=PI.weak h λσ H R hh=>by
 obtain⟨F,ρ,H0,ds,ρ',R,e,k⟩:=hh;unfold iL at e;split at e
 ·rename_i ds' ρ1 e1;cases e;refine⟨F,ρ,H0,_,_,R,e1,λv H1 H1' s R' r=>?_⟩;unfold Rep at r;obtain⟨a,xs,rfl,r1,r2⟩:=r;exact⟨a,rfl,⟨xs,R'.sub.seq (SqL.of r1)⟩,k _ _ _ s R' (x6 (SqL.of r1) r2)⟩
 ·rename_i ds' ρ1 e1;cases e;refine⟨F,ρ,H0,_,_,R,e1,λv H1 H1' s R' r=>?_⟩;unfold Rep at r;obtain⟨a,xs,rfl,r1,r2⟩:=r;exact⟨a,rfl,⟨xs,R'.sub.seq r1⟩,k _ _ _ s R' (x6 r1 r2)⟩
 ·cases e
theorem IL(h:PI X tg e (KN G.K (tF G f))):PI X tg e (tFI G (iT f)):=PI.weak h λσ H R hh=>by
 obtain⟨F,ρ,H0,ds,ρ',R,e,k⟩:=hh;unfold iT at e;split at e
 ·rename_i ds' ρ1 e1;cases e;refine⟨F,ρ,H0,_,_,R,e1,λv H1 H1' s R' r=>?_⟩;unfold Rep at r;obtain⟨a,xs,rfl,r1,r2⟩:=r;exact⟨a,rfl,⟨xs,SqT.mono R'.sub r1⟩,k _ _ _ s R' (FH r1 r2)⟩
 ·cases e
def va(lo:Int)(n:Nat):List D:=(aV n).map λ(i:Nat)=>D.int (lo+(i:Int))
theorem A7{lo:Int}{n:Nat}:Walk G (Itr lo n) (va lo n) H0:=λi H1 H1' s s'=>by
 refine⟨λd e=>?_,λhl=>by show n<=i;rw[hl];simp[va]⟩;unfold va at e;rw[aZ]at e;by_cases hi:i<n
 ·rw[hJ hi]at e;cases e;refine⟨hi,λx H2' y=>?_⟩;obtain⟨e3,rfl⟩:=y;subst e3;exact⟨H1,nE.refl _,s',nE.refl _,λb o e=>.inl e,o8 _⟩
 ·rw[f6 (by simpa using hi)]at e;cases e
def iR1(f:FE):FA:=λρ=>match f ρ with
 |some (.int n,ρ')=>if -1000000<=n/\n<=1000000 then some (va 0 n.toNat,ρ')else none
 |_=>none
theorem BX(h:PI X tg e (JV (tFA G (aCons f n6)))):PI X tg e (tFI G (iR1 f)):=PI.weak h λσ H R hh=>by
 obtain⟨F,ρ,H0,ds,ρ',R,e,k⟩:=hh;unfold iR1 at e;split at e
 ·rename_i n ρ1 e1;split at e
  ·rename_i hn;cases e;refine⟨F,ρ,H0,[.int n],_,R,by unfold aCons;rw[e1];rfl,λxs H1 H1' s R' rs=>?_⟩;unfold ny at rs;obtain⟨v,r0,rfl,rv,rn⟩:=rs;unfold ny at rn;unfold Rep at rv;subst rn rv;exact⟨n,rfl,by omega,by omega,k _ _ _ s R' A7⟩
  ·cases e
 ·cases e
def forL(g:FG)(b:FS):List D->FS
 |[],ρ=>some (.nx ρ)
 |d::r,ρ=>match g d ρ with
  |none=>none
  |some ρ1=>match b ρ1 with
   |some (.nx ρ2)=>forL g b r ρ2
   |some (.ct ρ2)=>forL g b r ρ2
   |some (.bk ρ2)=>some (.nx ρ2)
   |some (.rt d ρ2)=>some (.rt d ρ2)
   |some (.rn d ρ2)=>some (.rn d ρ2)
   |none=>none
def sI(s:FA)(g:FG)(b:FS):FS:=λρ=>match s ρ with
 |some (ds,ρ')=>forL g b ds ρ'
 |none=>none
theorem IM{st:Stmt}{n:Nat}{s:FA}{g:FG}(h:PS X st (KP (tFI G s) (tFG G n g) (tFS G b))):PS X st (tFS G (sI s g b)):=PS.weak h λE σ H hh=>by
 obtain⟨F,ρ,H0,o,R,e,k,k2⟩:=hh;unfold sI at e;rcases nN (f:=s) (ρ:=ρ)with e1|⟨ds,ρ1,e1⟩<;>simp only[e1]at e
 ·cases e
 ·refine⟨F,ρ,H0,ds,ρ1,R,e1,λJ H1 H1' s1 R1 wk=>?_⟩;refine⟨λi m σ H=>m=ds.length - i/\i<=ds.length/\∃ρi Hi,nE H1 Hi/\nM G F σ ρi Hi H/\forL g b (ds.drop i) ρi=some o,⟨_,rfl,bW _,ρ1,H1,nE.refl _,R1,e⟩,?_⟩;rintro i m σi Hi' ⟨rfl,hi,ρi,Hi,si,Ri,ei⟩;by_cases hlt:i<ds.length
  ·have ed:ds.drop i=ds[i]::ds.drop (i+1):=gU hlt;rw[ed]at ei;unfold forL at ei;obtain⟨go,yl⟩:=(wk i Hi Hi' si Ri.sub).1 ds[i] (aP hlt);refine .inr ⟨go,λσ' H'=>∃ρi Hi,nE H1 Hi/\nM G F σ' ρi Hi H'/\forL g b (ds.drop (i+1)) ρi=some o,λσ' H' q=>⟨ds.length - (i+1),by omega,rfl,hlt,q⟩,λx H' y=>?_⟩;obtain⟨H2,t1,t2,t3,t4,t5⟩:=yl x H' y;have R2:=Ri.grow t3 t1 t2 t4;cases e2:g ds[i] ρi with
   |none=>simp only[e2]at ei;cases ei
   |some ρ2=>
    simp only[e2]at ei;refine⟨F,ρi,H2,_,ρ2,R2,t5,e2,λσ3 _ R3=>?_⟩;have kk:=k.back (s1.trans (si.trans t1));cases e3:b ρ2 with
    |none=>simp only[e3]at ei;cases ei
    |some q=>
     refine⟨F,ρ2,H2,q,R3,e3,?_,λ_=>rfl⟩;cases q with
     |nx ρ3=>simp only[e3]at ei;exact λσ' H0' H' s' R'=>⟨ρ3,H0',si.trans (t1.trans s'),R',ei⟩
     |ct ρ3=>simp only[e3]at ei;exact λσ' H0' H' s' R'=>⟨ρ3,H0',si.trans (t1.trans s'),R',ei⟩
     |bk ρ3=>simp only[e3]at ei;cases ei;exact kk
     |rt d ρ3=>simp only[e3]at ei;cases ei;exact kk
     |rn d ρ3=>simp only[e3]at ei;cases ei;exact kk
  ·have ez:ds.drop i=[]:=jo (by omega);rw[ez]at ei;unfold forL at ei;cases ei;exact .inl ⟨(wk i Hi Hi' si Ri.sub).2 (by omega),k _ _ _ (s1.trans si) Ri⟩
end
def Sl.cap:Sl->Sl
 |.im d=>.im d
 |.ls ds=>.pm ds
 |.pm ds=>.pm ds
 |_=>.un
def vH(k:Nat)(cap:List Nat)(ρ:List Sl):List Sl:=fK k .un++cap.map λj=>((ρ[j]?).getD .un).cap
def qq:List Nat->List Sl->List Sl->Option (List Sl)
 |[],_,ρ=>some ρ
 |j::cap,t::ts,ρ=>match oM ρ j with
  |some _=>match t with
   |.pm ds=>qq cap ts (putAt ρ j ds)
   |_=>none
  |none=>qq cap ts ρ
 |_::_,[],_=>none
def qz(k:Nat)(cap:List Nat)(g:FG)(ft:FT)(fe:FE):List D->List Sl->Option (List D×List Sl)
 |[],ρ=>some ([],ρ)
 |d::r,ρ=>match g d (vH k cap ρ)with
  |none=>none
  |some ρ1=>match ft ρ1 with
   |some (true,ρ2)=>match fe ρ2 with
    |some (x,ρ3)=>match qq cap (ρ3.drop k) ρ with
     |some ρ'=>match qz k cap g ft fe r ρ' with
      |some (xs,ρ'')=>some (x::xs,ρ'')
      |none=>none
     |none=>none
    |none=>none
   |some (false,ρ2)=>match qq cap (ρ2.drop k) ρ with
    |some ρ'=>qz k cap g ft fe r ρ'
    |none=>none
   |none=>none
def nJ(k:Nat)(cap:List Nat)(s:FA)(g:FG)(ft:FT)(fe:FE):FA:=λρ=>match s ρ with
 |some (ds,ρ')=>if ds.length<=1000 then qz k cap g ft fe ds ρ' else none
 |none=>none
def oh:FT:=λρ=>some (true,ρ)
theorem tE:∀{cap:List Nat} {ts ρ ρ':List Sl},qq cap ts ρ=some ρ'->ρ'.length=ρ.length/\
  (∀(j:Nat) (s':Sl),ρ'[j]?=some s'->∃s,ρ[j]?=some s/\((s'=s/\(s.L≠none->j∉cap))\/∃(m:Nat) (ds ds0:List D),cap[m]?=some j/\ts[m]?=some (Sl.pm ds)/\s.L=some ds0/\s'=s.putL ds))
 |[],ts,ρ,ρ',h=>by cases h;exact⟨rfl,λj s' e=>⟨s',e,.inl ⟨rfl,λ_ z=>by cases z⟩⟩⟩
 |j0::cap,[],ρ,ρ',h=>by cases h
 |j0::cap,t::ts,ρ,ρ',h=>by
  unfold qq at h;cases e0:oM ρ j0 with
  |none=>
   simp only[e0]at h;obtain⟨h1,h2⟩:=tE h;refine⟨h1,λj s' e=>?_⟩;obtain⟨s,e1,q⟩:=h2 j s' e;refine⟨s,e1,?_⟩;rcases q with ⟨rfl,q⟩|⟨m,ds,ds0,q1,q2,q3,q4⟩
   ·refine .inl ⟨rfl,λz y=>?_⟩;rcases aO.mp y with y|y
    ·subst y;unfold oM at e0;rw[e1]at e0;exact z e0
    ·exact q z y
   ·exact .inr ⟨m+1,ds,ds0,q1,q2,q3,q4⟩
  |some ds1=>
   simp only[e0]at h;cases t with
   |pm ds=>
    simp only at h;obtain⟨s0,e1,e2⟩:=qp e0;unfold putAt at h;rw[e1]at h;simp only at h;obtain⟨h1,h2⟩:=tE h;refine⟨by rw[h1,cZ],λj s' e=>?_⟩;obtain⟨s,e3,q⟩:=h2 j s' e;by_cases hj:j0=j
    ·subst hj;rw[bC,ag rfl]at e3;split at e3
     ·cases e3;refine⟨s0,e1,.inr ?_⟩;rcases q with ⟨rfl,q⟩|⟨m,ds',ds0,q1,q2,q3,q4⟩
      ·exact⟨0,ds,ds1,rfl,rfl,e2,rfl⟩
      ·refine⟨m+1,ds',ds1,q1,q2,e2,?_⟩;rw[q4];cases s0<;>rfl
     ·cases e3
    ·rw[bC,ai hj]at e3;refine⟨s,e3,?_⟩;rcases q with ⟨rfl,q⟩|⟨m,ds',ds0,q1,q2,q3,q4⟩
     ·refine .inl ⟨rfl,λz y=>?_⟩;rcases aO.mp y with y|y
      ·exact hj y.symm
      ·exact q z y
     ·exact .inr ⟨m+1,ds',ds0,q1,q2,q3,q4⟩
   |_=>cases h
def yS(cap:List Nat)(σ:St)(ρ:List Sl):List Addr:=cap.filterMap λj=>match oM ρ j,(σ[j]?).join with
 |some _,some (.ref a)=>some a
 |_,_=>none
theorem ud{cap:List Nat}:a∈yS cap σ ρ ↔ ∃j∈cap,(∃ds,oM ρ j=some ds)/\(σ[j]?).join=some (.ref a):=by
 unfold yS;rw[eD];constructor
 ·rintro⟨j,hj,e⟩;refine⟨j,hj,?_⟩;split at e
  ·rename_i ds a' e1 e2;cases e;exact⟨⟨ds,e1⟩,e2⟩
  ·cases e
 ·rintro⟨j,hj,⟨ds,e1⟩,e2⟩;refine⟨j,hj,?_⟩;rw[e1,e2]
variable{H1':Hp}{ft:FT}{fe:FE}
section
variable{X:Cx}{G:Bg}{F:Fr}{σ:St}{ρ:List Sl}{H0 H:Hp}
theorem x8{k:Nat}{cap:List Nat}{s:Sl}(h:(vH k cap ρ)[i]?=some s):s=.un\/∃m j,i=k+m/\cap[m]?=some j/\s=((ρ[j]?).getD .un).cap:=by
 unfold vH at h;by_cases hi:i<k
 ·rw[ck (by simpa using hi),fj,ag hi]at h;cases h;exact .inl rfl
 ·rw[cH (by simpa using j7 hi),bO,aZ]at h;cases e:cap[i - k]? with
  |none=>rw[e]at h;cases h
  |some j=>rw[e]at h;cases h;exact .inr ⟨i - k,j,by omega,e,rfl⟩
theorem vI{k:Nat}{cap:List Nat}{m:Nat}(h:cap[m]?=some j):((qw k cap σ)[k+m]?).join=(σ[j]?).join:=by unfold qw;rw[cH (by simp),bO,show k+m - k=m by omega,aZ,h];rfl
theorem nM.cap(R:nM G F σ ρ H0 H)(k:Nat)(cap:List Nat)(nd:cap.Nodup):nM G ⟨H0,H,yS cap σ ρ⟩ (qw k cap σ) (vH k cap ρ) H0 H where
 sub:=R.sub
 g0:=nE.refl _
 keep:=λb o e _=>e
 fr:=λb o e=>.inl e
 am:=λa ha=>by obtain⟨j,hj,⟨ds,e1⟩,e2⟩:=ud.mp ha;obtain⟨s,e3,e4⟩:=qp e1;obtain⟨a',xs,h1,h2,_⟩:=(R.sl j s e3).lst e4;rw[e2]at h1;cases h1;exact⟨_,h2⟩
 len:=by unfold qw vH;rw[aw,aw,bO,bO,af,af]
 sl:=λi s e=>by
  rcases x8 e with rfl|⟨m,j,rfl,e1,rfl⟩
  ·trivial
  ·rw[vI e1];cases e2:ρ[j]? with
   |none=>trivial
   |some s=>
    have ok:=R.sl j s e2;have mem:∀{a:Addr} {ds:List D},s.L=some ds->(σ[j]?).join=some (.ref a)->a∈yS cap σ ρ:=λh1 h2=>ud.mpr ⟨j,bz e1,⟨_,by unfold oM;rw[e2];exact h1⟩,h2⟩;cases s with
    |un=>trivial
    |im d=>exact ok
    |ls ds=>obtain⟨a,xs,h1,h2,h3,h4,h5⟩:=ok;exact⟨a,xs,h1,h2,h3,mem rfl h1,h5⟩
    |pm ds=>obtain⟨a,xs,h1,h2,h3,h4,h5⟩:=ok;exact⟨a,xs,h1,h2,h3,mem rfl h1,h5⟩
    |dk ks ds=>trivial
    |ob c ns ds=>trivial
 ap:=λi i' s t a hii e e' so to v v'=>by
  rcases x8 e with rfl|⟨m,j,rfl,e1,rfl⟩
  ·cases so
  rcases x8 e' with rfl|⟨m',j',rfl,e1',rfl⟩
  ·cases to
  rw[vI e1]at v;rw[vI e1']at v';have own:∀{j:Nat},(((ρ[j]?).getD Sl.un).cap).own=true->∃s,ρ[j]?=some s/\s.own=true:=λ{j} h=>by
   cases z:ρ[j]? with
   |none=>rw[z]at h;cases h
   |some s=>rw[z]at h;refine⟨s,rfl,?_⟩;cases s<;>first|rfl|cases h
  obtain⟨s,z,zo⟩:=own so;obtain⟨s',z',zo'⟩:=own to;by_cases hj:j=j'
  ·subst hj;have:m=m':=(List.getElem?_inj (bj.mp e1).1 nd).mp (e1.trans e1'.symm);exact hii (by rw[this])
  ·exact R.ap j j' s s' a hj z z' zo zo' v v'
theorem nM.uncap(R:nM G F σ ρ H0 H){k:Nat}{cap:List Nat}{σ4:St}{ρ4:List Sl}(R4:nM G ⟨H0,H,yS cap σ ρ⟩ σ4 ρ4 H1 H1')(hd:σ4.drop k=(qw k cap σ).drop k)(hu:qq cap (ρ4.drop k) ρ=some ρ'):nM G F σ ρ' H1 H1':=by
 obtain⟨hl,hc⟩:=tE hu;have at4:∀{m j:Nat},cap[m]?=some j->(σ4[k+m]?).join=(σ[j]?).join:=λ{m j} e=>by
  have q:(σ4.drop k)[m]?=((qw k cap σ).drop k)[m]?:=by rw[hd]
  rw[cU,cU]at q;rw[q];exact vI e
 have nA:∀{j:Nat} {s:Sl} {a:Addr},ρ[j]?=some s->s.own=true->(σ[j]?).join=some (.ref a)->(s.L≠none->j∉cap)->a∉yS cap σ ρ:=λ{j s a} e so z hn ha=>by
  obtain⟨i,hi,⟨ds,e1⟩,e2⟩:=ud.mp ha;obtain⟨t,e3,e4⟩:=qp e1;by_cases hij:i=j
  ·subst hij;rw[e]at e3;cases e3;exact hn (by rw[e4];simp) hi
  ·exact R.ap i j t s a hij e3 e (Sl.L_own e4) so e2 z
 have hA:∀a∈yS cap σ ρ,F.B a=none\/a∈F.A:=λa ha=>by obtain⟨i,hi,⟨ds,e1⟩,e2⟩:=ud.mp ha;obtain⟨t,e3,e4⟩:=qp e1;obtain⟨a',u,h1,h2,h3,h4⟩:=(R.sl i t e3).at (Sl.L_own e4);rw[e2]at h1;cases h1;exact h4
 have own':∀{j:Nat} {s':Sl},ρ'[j]?=some s'->s'.own=true->∃s,ρ[j]?=some s/\s.own=true:=λ{j s'} e so=>by
  obtain⟨s,e1,q⟩:=hc j s' e;rcases q with ⟨rfl,q⟩|⟨m,ds,ds0,q1,q2,q3,q4⟩
  ·exact⟨s',e1,so⟩
  ·exact⟨s,e1,Sl.L_own q3⟩
 exact {
  sub:=R4.sub
  g0:=R.g0.trans R4.g0
  keep:=λb o e n=>by
   refine R4.keep b o (R.keep b o e n) λha=>?_;rcases hA b ha with q|q
   ·rw[q]at e;cases e
   ·exact n q
  fr:=λb o e=>by
   rcases R4.fr b o e with q|q
   ·exact R.fr b o q
   ·exact .inr (R.bNone q)
  am:=λa ha=>by
   obtain⟨o,q⟩:=R.am a ha;by_cases z:a∈yS cap σ ρ
   ·exact R4.am a z
   ·exact⟨o,R4.keep a o q z⟩
  len:=by rw[hl];exact R.len
  sl:=λj s' e=>by
   obtain⟨s,e1,q⟩:=hc j s' e;rcases q with ⟨rfl,q⟩|⟨m,ds,ds0,q1,q2,q3,q4⟩
   ·refine(R.sl j s' e1).grow R4.g0 (λa u z so y=>R4.keep a u y (nA e1 so z q)) λa u z so y y0=>?_;cases w:H1 a with
    |none=>rfl
    |some o=>
     rcases R4.fr a o w with x|x
     ·have x':H0 a=some o:=x;rw[x']at y0;cases y0
     ·have x':H a=none:=x;rw[x']at y;cases y
   ·rw[cU]at q2;obtain⟨a,xs,h1,h2,h3,h4,h5⟩:=R4.sl _ _ q2;rw[at4 q1]at h1;have ok:=R.sl j s e1;subst q4;cases s with
    |ls ds1=>obtain⟨a',xs',g1,g2,g3,g4,g5⟩:=ok;rw[h1]at g1;cases g1;exact⟨a,xs,h1,h2,h3,g4,h5⟩
    |pm ds1=>obtain⟨a',xs',g1,g2,g3,g4,g5⟩:=ok;rw[h1]at g1;cases g1;exact⟨a,xs,h1,h2,h3,g4,h5⟩
    |_=>cases q3
  ap:=λi j s t a hij ei ej so to v v'=>by
   obtain⟨s0,z,zo⟩:=own' ei so;obtain⟨t0,y,yo⟩:=own' ej to;exact R.ap i j s0 t0 a hij z y zo yo v v' }
theorem ue{k:Nat}{cap:List Nat}{ts:List Sl}(h:Apart σ ρ p)(hu:qq cap ts ρ=some ρ'):Apart σ ρ' p:=λi s' e so=>by
 obtain⟨s,e1,q⟩:=(tE hu).2 i s' e;rcases q with ⟨rfl,q⟩|⟨m,ds,ds0,q1,q2,q3,q4⟩
 ·exact h i s' e1 so
 ·exact h i s e1 (Sl.L_own q3)
inductive CI(G:Bg) (F:Fr) (σ:St) (H1:Hp) (p:Addr) (k:Nat) (cap:List Nat) (g:FG) (ft:FT) (fe:FE) (ds es:List D) (ρ':List Sl) (i m:Nat) (acc:List V) (H2:Hp):Prop
 |mk (ρi:List Sl) (Hi:Hp) (dn rest:List D):m=ds.length - i->i<=ds.length->nE H1 Hi->nM G F σ ρi Hi H2->H2 p=some (.lst acc)->Hi p=none->Apart σ ρi p->ny G Hi dn acc->dn.length<=i->qz k cap g ft fe (ds.drop i) ρi=some (rest,ρ')->es=dn++rest->CI G F σ H1 p k cap g ft fe ds es ρ' i m acc H2
theorem z7{k:Nat}{cap:List Nat}{s:FA}{g:FG}(nd:cap.Nodup):∀σ H Q,tFN G (nJ k cap s g ft fe) σ H Q->wM (tFI G s) (tFG G k g) (tFT G ft) (tF G fe) k cap σ H Q:=λσ H Q hh=>by
 obtain⟨F,ρ,H0,es,ρ',R,e,kk⟩:=hh;unfold nJ at e;rcases nN (f:=s) (ρ:=ρ)with e1|⟨ds,ρ1,e1⟩<;>simp only[e1]at e
 ·cases e
 ·split at e
  ·rename_i hlen;refine⟨F,ρ,H0,ds,ρ1,R,e1,λJ H1 H1' s1 R1 wk p hp=>?_⟩;refine⟨CI G F σ H1 p k cap g ft fe ds es ρ',
    ⟨_,ρ1,H1,[],es,rfl,bW _,nE.refl _,R1.newOwn hp _,nI,R1.h0none hp,R1.apart hp,nY,aA _,e,rfl⟩,?_⟩
   rintro i m acc H2 ⟨ρi,Hi,dn,rest,rfl,hi,si,Ri,hp2,hp0,apt,rs,hdn,ei,rfl⟩;by_cases hlt:i<ds.length
   ·have ed:ds.drop i=ds[i]::ds.drop (i+1):=gU hlt;rw[ed]at ei;unfold qz at ei;obtain⟨go,yl⟩:=(wk i Hi H2 si Ri.sub).1 ds[i] (aP hlt);refine .inr ⟨go,λx H3 y=>?_⟩;obtain⟨Hj,t1,t2,t3,t4,t5⟩:=yl x H3 y;have R2:=Ri.grow t3 t1 t2 t4;have hp3:H3 p=some (.lst acc):=t3 _ _ hp2;have hpj:Hj p=none:=by
     cases w:Hj p with
     |none=>rfl
     |some o=>
      rcases t4 p o w with z|z
      ·rw[hp0]at z;cases z
      ·rw[hp2]at z;cases z
    have RC:=R2.cap k cap nd;have npA:p∉yS cap σ ρi:=λz=>by obtain⟨j,_,⟨ds',q1⟩,q2⟩:=ud.mp z;obtain⟨t,q3,q4⟩:=qp q1;exact apt j t q3 (Sl.L_own q4) q2
    cases e2:g ds[i] (vH k cap ρi)with
    |none=>simp only[e2]at ei;cases ei
    |some ρ2=>
     simp only[e2]at ei;refine⟨_,_,Hj,ds[i],ρ2,RC,t5,e2,λσ4 hd4 R4=>⟨hd4,?_⟩⟩;rcases nN (f:=ft) (ρ:=ρ2)with e3|⟨b,ρ3,e3⟩
     ·simp only[e3]at ei;cases ei
     ·refine⟨_,ρ2,Hj,b,ρ3,R4,e3,λH5 H5' s5 R5=>?_⟩;have keepP:∀{σ':St} {ρ'':List Sl} {Ha Ha':Hp},nM G ⟨Hj,H3,yS cap σ ρi⟩ σ' ρ'' Ha Ha'->Ha' p=some (.lst acc)/\Ha p=none:=λRz=>by
       refine⟨Rz.keep p _ hp3 npA,?_⟩;refine Option.eq_none_iff_forall_ne_some.mpr λo w2=>?_;rcases Rz.fr p o w2 with z|z
       ·have z':Hj p=some o:=z;rw[hpj]at z';cases z'
       ·have z':H3 p=none:=z;rw[hp3]at z';cases z'
      cases b with
      |false=>
       simp only[e3]at ei;refine zV ?_;cases e4:qq cap (ρ3.drop k) ρi with
       |none=>simp only[e4]at ei;cases ei
       |some ρn=>simp only[e4]at ei;obtain⟨w1,w2⟩:=keepP R5;exact⟨ds.length - (i+1),by omega,ρn,H5,dn,rest,rfl,hlt,si.trans (t1.trans s5),R2.uncap R5 hd4 e4,w1,w2,ue (k:=k) apt e4,ny.mono (t1.trans s5) _ _ rs,by omega,ei,rfl⟩
      |true=>
       simp only[e3]at ei;refine zW ?_;rcases nN (f:=fe) (ρ:=ρ3)with e5|⟨x5,ρ5,e5⟩
       ·simp only[e5]at ei;cases ei
       ·simp only[e5]at ei;refine⟨_,ρ3,H5,x5,ρ5,R5,e5,λv H6 H6' s6 R6 rv=>?_⟩;obtain⟨w1,w2⟩:=keepP R6;cases e4:qq cap (ρ5.drop k) ρi with
        |none=>simp only[e4]at ei;cases ei
        |some ρn=>
         simp only[e4]at ei;cases e6:qz k cap g ft fe (ds.drop (i+1)) ρn with
         |none=>simp only[e6]at ei;cases ei
         |some q=>
          obtain⟨rest',ρz⟩:=q;simp only[e6]at ei;cases ei;have Rn:=R2.uncap R6 hd4 e4;have lacc:acc.length=dn.length:=(nu rs).symm;refine⟨acc,w1,uG (by omega),ds.length - (i+1),by omega,ρn,H6,dn++[x5],rest',rfl,hlt,si.trans (t1.trans (s5.trans s6)),?_,nI,w2,ue (k:=k) apt e4,o9 (ny.mono (t1.trans (s5.trans s6)) _ _ rs) (n9 rv nY),by rw[aw,br];omega,e6,by rw[bD];rfl⟩;exact {
           sub:=λb o e=>by rw[nH (λz=>by rw[z,w2]at e;cases e)];exact Rn.sub b o e
           g0:=Rn.g0
           keep:=λb o e n=>by rw[nH (λz=>by subst z;rw[R1.bNone hp]at e;cases e)];exact Rn.keep b o e n
           fr:=Rn.fr
           am:=λb hb=>by
            by_cases z:b=p
            ·subst z;exact⟨_,nI⟩
            ·rw[nH z];exact Rn.am b hb
           len:=Rn.len
           sl:=λj t ej=>(Rn.sl j t ej).grow (nE.refl _) (λb u z to q=>by rw[nH (λy=>ue (k:=k) apt e4 j t ej to (by rw[z,y]))];exact q) λb u _ _ _ q=>q
           ap:=Rn.ap }
   ·have ez:ds.drop i=[]:=jo (by omega);rw[ez]at ei;unfold qz at ei;cases ei;rw[bh]at kk;exact .inl ⟨(wk i Hi H2 si Ri.sub).2 (by omega),kk p acc Hi H2 (s1.trans si) Ri hp2 hp0 (R1.bNone hp) apt rs⟩
  ·cases e
theorem FI{k:Nat}{cap:List Nat}{s:FA}{g:FG}(nd:cap.Nodup)(h:PE X e (wM (tFI G s) (tFG G k g) (tFT G ft) (tF G fe) k cap)):PE X e (tFN G (nJ k cap s g ft fe)):=PE.weak h (z7 nd)
theorem FJ:PIf X [] (tFT G oh):=λpins s σ H Q I h=>by obtain⟨F,ρ,H0,b,ρ',R,e,k⟩:=h;cases e;exact HR pins s σ H Q I (k _ _ (nE.refl _) R)
end
def pR:D->Bool
 |.non=>true|.bl _=>true|.int _=>true|.str _=>true|_=>false
def vD:D->V
 |.non=>.non|.bl b=>.bl b|.int i=>.int i|.str x=>.str x|_=>.non
variable{r':R2}{g':D->D->Option D}{neg:Bool}
section
variable{X:Cx}{G:Bg}{H:Hp}
theorem qT{v:V}(h:Rep G H d v)(f:pR d=true):v=vD d:=by cases d<;>first|(unfold Rep at h;exact h)|cases f
theorem vJ(f:pR d=true):∀H,Rep G H d (vD d):=λH=>by cases d<;>first|(unfold Rep;rfl)|cases f
theorem wm:∀{ds:List D} {xs:List V},ny G H ds xs->ds.all pR=true->xs=ds.map vD
 |[],xs,h,f=>by unfold ny at h;exact h
 |d::ds,xs,h,f=>by unfold ny at h;obtain⟨v,r,rfl,h1,h2⟩:=h;rw[c8,aB]at f;rw[aF,qT h1 f.1,wm h2 f.2]
theorem A8(f:pR d=true):uP (vD d)=true:=by cases d<;>first|rfl|cases f
theorem zd:∀{ds:List D},ds.all pR=true->(ds.map vD).all uP=true
 |[],_=>rfl
 |d::ds,f=>by rw[c8,aB]at f;rw[aF,c8,A8 f.1,zd f.2];rfl
theorem OpR.or{f:aa->aa->Sem aa}{r:R2}(h:OpR X f r)(h':OpR X f r'):OpR X f (λx y H Q=>r x y H Q\/r' x y H Q):=λpins s σ H x y v u Q I rx ry q=>q.elim (h pins s σ H x y v u Q I rx ry) (h' pins s σ H x y v u Q I rx ry)
theorem OpD.or{r:R2}{g:D->D->Option D}(h:OpD G r g)(h':OpD G r' g'):OpD G (λx y H Q=>r x y H Q\/r' x y H Q) (λx y=>match g x y with|some z=>some z|none=>g' x y):=λx y z H0 H v u Q e s rx ry k=>by
 cases e1:g x y with
 |some w=>simp only[e1]at e;cases e;exact .inl (h x y _ H0 H v u Q e1 s rx ry k)
 |none=>simp only[e1]at e;exact .inr (h' x y z H0 H v u Q e s rx ry k)
def dI(C:Int->Int->Bool)(g:Int->Int->D):D->D->Option D
 |.int a,.int b=>if C a b=true then some (g a b)else none
 |_,_=>none
theorem CS{C:Int->Int->Bool}{C':Int->Int->Prop}{g:Int->Int->D}{g':Int->Int->V}(hC:∀a b,C a b=true->C' a b)(hf:∀a b,pR (g a b)=true/\vD (g a b)=g' a b):OpD G (rI C' g') (dI C g):=λx y z H0 H v u Q e s rx ry k=>by
 unfold dI at e;split at e
 ·rename_i a b;split at e
  ·rename_i hc;cases e;unfold Rep at rx ry;exact⟨a,b,rx,ry,hC _ _ hc,by rw[<-(hf a b).2];exact k _ λH0' _=>vJ (hf a b).1 H0'⟩
  ·cases e
 ·cases e
theorem x9{g:Int->Int->D}{g':Int->Int->V}(hf:∀a b,pR (g a b)=true/\vD (g a b)=g' a b):OpD G (rI0 g') (dI (λ_ _=>true) g):=λx y z H0 H v u Q e s rx ry k=>by
 unfold dI at e;split at e
 ·rename_i a b;split at e
  ·cases e;unfold Rep at rx ry;exact⟨a,b,rx,ry,by rw[<-(hf a b).2];exact k _ λH0' _=>vJ (hf a b).1 H0'⟩
  ·cases e
 ·cases e
def qd:=dI (λ_ _=>true) λa b=>.int (a+b)
def sm(a:Int):Bool:=decide (-(2 ^ 64)<a)&&decide (a<2 ^ 64)
def rK:=dI (λa b=>sm a||sm b) λa b=>.int (a * b)
def qe:=dI (λ_ b=>decide (0<b)) λa b=>.int (a % b)
def sJ:=dI (λ_ b=>decide (0<b)&&decide (b<1073741824)) λa b=>.int (a / b)
def FK:=dI (λa b=>decide (0<=b)&&decide (b<=1000000)&&decide (a.natAbs<2 ^ 64)) λa b=>.int (a ^ b.toNat)
def A9:=dI (λ_ _=>true) λa b=>.bl (decide (a<b))
def rX:=dI (λ_ _=>true) λa b=>.bl (decide (a<=b))
def FL:=dI (λ_ _=>true) λa b=>.bl (decide (b<a))
def Lx:=dI (λ_ _=>true) λa b=>.bl (decide (b<=a))
theorem Ly:OpD G (rI0 λi j=>.int (i+j)) qd:=x9 λ_ _=>⟨rfl,rfl⟩
theorem LA:OpD G (rI Hv λi j=>.int (i * j)) rK:=CS (λa b h=>by
 unfold sm at h;simp only[dX,aB,bE]at h;exact h) λ_ _=>⟨rfl,rfl⟩
theorem LB:OpD G (rI (λ_ j=>0<j) λi j=>.int (i % j)) qe:=CS (λa b h=>by simpa using h) λ_ _=>⟨rfl,rfl⟩
theorem LC:OpD G (rI KR λi j=>.int (i / j)) sJ:=CS (λa b h=>by unfold KR;simpa using h) λ_ _=>⟨rfl,rfl⟩
theorem LF:OpD G (rI Og λi j=>.int (i ^ j.toNat)) FK:=CS (λa b h=>by
 simp only[aB,bE]at h;exact⟨h.1.1,h.1.2,h.2⟩) λ_ _=>⟨rfl,rfl⟩
theorem ON:OpD G (rI0 λi j=>.bl (decide (i<j))) A9:=x9 λ_ _=>⟨rfl,rfl⟩
theorem OO:OpD G (rI0 λi j=>.bl (decide (i<=j))) rX:=x9 λ_ _=>⟨rfl,rfl⟩
theorem OP:OpD G (rI0 λi j=>.bl (decide (j<i))) FL:=x9 λ_ _=>⟨rfl,rfl⟩
theorem OQ:OpD G (rI0 λi j=>.bl (decide (j<=i))) Lx:=x9 λ_ _=>⟨rfl,rfl⟩
def Qh:D->D->Option D
 |.str a,.str b=>if a.length+b.length<=100000 then some (.str (a++b))else none
 |_,_=>none
theorem Ba{n:Nat}(h:n<=100000):n<=ay:=bw h (by rw[cz];decide)
def FM:D->D->Option D
 |.str a,.str b=>some (.bl (!decide (b.cps.toList<a.cps.toList)))
 |_,_=>none
theorem LG:OpD G (λx y H Q=>∃i j,x=.str i/\y=.str j/\Q (.bl (!decide (j.cps.toList<i.cps.toList))) H) FM:=λx y z H0 H v u Q e s rx ry k=>by
 unfold FM at e;split at e
 ·rename_i a b;cases e;unfold Rep at rx ry;exact⟨a,b,rx,ry,k _ λ_ _=>qh _⟩
 ·cases e
def xu:D->D->Option D
 |.non,.non=>some (.bl true)
 |_,.non=>some (.bl false)
 |_,_=>none
def ze:D->D->Option D
 |.non,.non=>some (.bl false)
 |_,.non=>some (.bl true)
 |_,_=>none
theorem CT{v:V}(h:Rep G H d v):decide (v=.non)=(match d with|.non=>true|_=>false):=by
 cases d<;>unfold Rep at h
 ·subst h;rfl
 ·subst h;rfl
 ·subst h;rfl
 ·subst h;rfl
 ·obtain⟨a,xs,rfl,_⟩:=h;rfl
 ·obtain⟨a,xs,rfl,_⟩:=h;rfl
 ·obtain⟨a,xs,rfl,_⟩:=h;rfl
 ·obtain⟨a,dx,xs,rfl,_⟩:=h;rfl
 ·obtain⟨a,ob,xs,rfl,_⟩:=h;rfl
theorem LH:OpD G (λx y H Q=>y=.non/\Q (.bl (decide (x=.non))) H) xu:=λx y z H0 H v u Q e s rx ry k=>by
 have e0:=CT rx;cases y<;>first|(cases x<;>cases e)|skip
 all_goals (unfold Rep at ry;refine⟨ry,?_⟩;rw[e0];exact k _ λ_ _=>qh _)
theorem IP:OpD G (λx y H Q=>y=.non/\Q (.bl (!decide (x=.non))) H) ze:=λx y z H0 H v u Q e s rx ry k=>by
 have e0:=CT rx;cases y<;>first|(cases x<;>cases e)|skip
 all_goals (unfold Rep at ry;refine⟨ry,?_⟩;rw[e0];exact k _ λ_ _=>qh _)
def PN:D->D->Option D
 |.bl a,.bl b=>some (.bl (a != b))
 |_,_=>none
mutual
def toD:D->Option L3.Dq
 |.non=>some .non
 |.bl b=>some (.bl b)
 |.int i=>some (.int i)
 |.str x=>some (.str x)
 |.tup ds=>match z8 ds with
  |some l=>some (.tup l)
  |none=>none
 |.lst ds=>match z8 ds with
  |some l=>some (.lst l)
  |none=>none
 |.fzl _=>none
 |.obj _ _ _=>none
 |.dic _ _=>none
def z8:List D->Option (List L3.Dq)
 |[]=>some []
 |d::ds=>match toD d with
  |some x=>match z8 ds with
   |some l=>some (x::l)
   |none=>none
  |none=>none
end
mutual
theorem z9:∀(d:D) (v:V) (x:L3.Dq),Rep G H d v->toD d=some x->L3.Rep G.K H x v
 |.non,v,x,h,e=>by unfold toD at e;cases e;unfold Rep at h;unfold L3.Rep;exact h
 |.bl b,v,x,h,e=>by unfold toD at e;cases e;unfold Rep at h;unfold L3.Rep;exact h
 |.int b,v,x,h,e=>by unfold toD at e;cases e;unfold Rep at h;unfold L3.Rep;exact h
 |.str b,v,x,h,e=>by unfold toD at e;cases e;unfold Rep at h;unfold L3.Rep;exact h
 |.tup ds,v,x,h,e=>by
  unfold toD at e;cases e1:z8 ds with
  |none=>simp only[e1]at e;cases e
  |some l=>simp only[e1]at e;cases e;unfold Rep at h;obtain⟨a,xs,rfl,h1,h2⟩:=h;unfold L3.Rep;exact⟨a,xs,rfl,h1,ya ds xs l h2 e1⟩
 |.lst ds,v,x,h,e=>by
  unfold toD at e;cases e1:z8 ds with
  |none=>simp only[e1]at e;cases e
  |some l=>simp only[e1]at e;cases e;unfold Rep at h;obtain⟨a,xs,rfl,h1,h2⟩:=h;unfold L3.Rep;exact⟨a,xs,rfl,SqL.of h1,ya ds xs l h2 e1⟩
 |.fzl _,v,x,h,e=>by unfold toD at e;cases e
 |.obj _ _ _,v,x,h,e=>by unfold toD at e;cases e
 |.dic _ _,v,x,h,e=>by unfold toD at e;cases e
theorem ya:∀(ds:List D) (xs:List V) (l:List L3.Dq),ny G H ds xs->z8 ds=some l->L3.ny G.K H l xs
 |[],xs,l,h,e=>by unfold z8 at e;cases e;unfold ny at h;unfold L3.ny;exact h
 |d::ds,xs,l,h,e=>by
  unfold z8 at e;cases e1:toD d with
  |none=>simp only[e1]at e;cases e
  |some x=>
   simp only[e1]at e;cases e2:z8 ds with
   |none=>simp only[e2]at e;cases e
   |some l'=>simp only[e2]at e;cases e;unfold ny at h;obtain⟨v,r,rfl,h1,h2⟩:=h;unfold L3.ny;exact⟨v,r,rfl,z9 d v x h1 e1,ya ds r l' h2 e2⟩
end
def BY(neg:Bool):D->D->Option D:=λx y=>match pR x&&pR y&&EX (vD x) (vD y)with
 |true=>some (.bl (if neg then !decide (vD x=vD y)else decide (vD x=vD y)))
 |false=>none
def LI(neg:Bool):D->D->Option D:=λx y=>match toD x,toD y with
 |some a,some b=>if J3 a b&&decide (dpt a<=20)&&decide (dpt b<=20)then some (.bl (if neg then !eqD a b else eqD a b))else none
 |_,_=>none
def dEq(neg:Bool):D->D->Option D:=λx y=>match BY neg x y with
 |some z=>some z
 |none=>LI neg x y
theorem LJ:OpD G rEq (BY false):=λx y z H0 H v u Q e s rx ry k=>by
 unfold BY at e;cases e1:pR x&&pR y&&EX (vD x) (vD y)with
 |false=>simp only[e1]at e;cases e
 |true=>simp only[e1]at e;cases e;simp only[aB]at e1;rw[qT rx e1.1.1,qT ry e1.1.2];exact⟨e1.2,k _ λ_ _=>qh _⟩
theorem LK:OpD G rNe (BY true):=λx y z H0 H v u Q e s rx ry k=>by
 unfold BY at e;cases e1:pR x&&pR y&&EX (vD x) (vD y)with
 |false=>simp only[e1]at e;cases e
 |true=>simp only[e1]at e;cases e;simp only[aB]at e1;rw[qT rx e1.1.1,qT ry e1.1.2];exact⟨e1.2,k _ λ_ _=>qh _⟩
theorem FN:OpD G (BV G.K neg) (LI neg):=λx y z H0 H v u Q e s rx ry k=>by
 unfold LI at e;cases e1:toD x with
 |none=>simp only[e1]at e;cases e
 |some a=>
  cases e2:toD y with
  |none=>simp only[e1,e2]at e;cases e
  |some b=>
   simp only[e1,e2]at e;split at e
   ·rename_i hc;cases e;simp only[aB,bE]at hc;exact⟨a,b,z9 x v a (Rep.mono s _ _ rx) e1,z9 y u b (Rep.mono s _ _ ry) e2,hc.1.1,hc.1.2,hc.2,k _ λ_ _=>qh _⟩
   ·cases e
theorem LL(hu:X.A.units+64<cLine)(hK:X.K=G.K:=by rfl):OpR X (aW .Eq) (λx y H Q=>rEq x y H Q\/BV G.K false x y H Q):=by rw[<-hK];exact OpR.or Oh (Lg hu)
theorem LM(hu:X.A.units+64<cLine)(hK:X.K=G.K:=by rfl):OpR X (aW .NotEq) (λx y H Q=>rNe x y H Q\/BV G.K true x y H Q):=by rw[<-hK];exact OpR.or Oi (Lh hu)
theorem OR:OpD G (λx y H Q=>rEq x y H Q\/BV G.K false x y H Q) (dEq false):=OpD.or LJ FN
theorem OS:OpD G (λx y H Q=>rNe x y H Q\/BV G.K true x y H Q) (dEq true):=OpD.or LK FN
def FP:D->Option (List D)
 |.tup ds=>some ds
 |.lst ds=>some ds
 |.fzl ds=>some ds
 |_=>none
theorem CU{v:V}(h:Rep G H d v)(e:FP d=some ds):∃p xs,v=.ref p/\(SqL G.K H p xs\/SqT G.K H p xs)/\ny G H ds xs:=by
 cases d with
 |tup l=>cases e;unfold Rep at h;obtain⟨a,xs,rfl,h1,h2⟩:=h;exact⟨a,xs,rfl,.inr h1,h2⟩
 |lst l=>cases e;unfold Rep at h;obtain⟨a,xs,rfl,h1,h2⟩:=h;exact⟨a,xs,rfl,.inl (SqL.of h1),h2⟩
 |fzl l=>cases e;unfold Rep at h;obtain⟨a,xs,rfl,h1,h2⟩:=h;exact⟨a,xs,rfl,.inl h1,h2⟩
 |_=>cases e
def dIn(neg:Bool):D->D->Option D:=λx y=>match FP y with
 |some ds=>if pR x&&ds.all pR then some (.bl (if neg then !inV (vD x) (ds.map vD)else inV (vD x) (ds.map vD)))else none
 |none=>none
theorem CV{K:aj}{H:Hp}(s:nE H H')(h:SqL K H p xs\/SqT K H p xs):SqL K H' p xs\/SqT K H' p xs:=h.imp s.seq (SqT.mono s)
theorem J7:OpD G (rIn G.K neg) (dIn neg):=λx y z H0 H v u Q e s rx ry k=>by
 unfold dIn at e;cases e1:FP y with
 |none=>simp only[e1]at e;cases e
 |some ds=>
  simp only[e1]at e;split at e
  ·rename_i hc;cases e;simp only[aB]at hc;obtain⟨p,xs,rfl,h1,h2⟩:=CU ry e1;refine⟨p,xs,rfl,CV s h1,?_,?_,?_⟩
   ·rw[qT rx hc.1];exact A8 hc.1
   ·rw[wm h2 hc.2];exact zd hc.2
   ·rw[qT rx hc.1,wm h2 hc.2];exact k _ λ_ _=>qh _
  ·cases e
theorem LN(hK:X.K=G.K:=by rfl):OpR X (aW .In) (rIn G.K false):=by rw[<-hK];exact D4
theorem Ek(hK:X.K=G.K:=by rfl):OpR X (aW .NotIn) (rIn G.K true):=by rw[<-hK];exact zP
def dIx:D->D->Option D
 |.tup ds,.int i=>atI ds i
 |.lst ds,.int i=>atI ds i
 |.fzl ds,.int i=>atI ds i
 |.str x,.int i=>if x.length<=100000 then (atI x.cps.toList i).map λc=>.str ⟨#[c]⟩else none
 |_,_=>none
theorem OT:OpD G (rIx G.K) dIx:=λx y z H0 H v u Q e s rx ry k=>by
 cases y with
 |int i=>
  unfold Rep at ry;subst ry;cases x with
  |tup ds=>unfold Rep at rx;obtain⟨a,xs,rfl,h1,h2⟩:=rx;obtain⟨w,w1,w2⟩:=vF h2 (show atI ds i=some z from e);exact .inr (.inl ⟨a,xs,i,w,rfl,rfl,SqT.mono s h1,w1,k _ λH0' s'=>Rep.mono s' _ _ w2⟩)
  |lst ds=>unfold Rep at rx;obtain⟨a,xs,rfl,h1,h2⟩:=rx;obtain⟨w,w1,w2⟩:=vF h2 (show atI ds i=some z from e);exact .inl ⟨a,xs,i,w,rfl,rfl,s.seq (SqL.of h1),w1,k _ λH0' s'=>Rep.mono s' _ _ w2⟩
  |fzl ds=>unfold Rep at rx;obtain⟨a,xs,rfl,h1,h2⟩:=rx;obtain⟨w,w1,w2⟩:=vF h2 (show atI ds i=some z from e);exact .inl ⟨a,xs,i,w,rfl,rfl,s.seq h1,w1,k _ λH0' s'=>Rep.mono s' _ _ w2⟩
  |str t=>
   unfold Rep at rx;subst rx;unfold dIx at e;simp only at e;split at e
   ·rename_i hl;cases e1:atI t.cps.toList i with
    |none=>rw[e1]at e;cases e
    |some c=>rw[e1]at e;cases e;exact .inr (.inr ⟨t,i,c,rfl,rfl,Ba hl,e1,k _ λ_ _=>vA _⟩)
   ·cases e
  |_=>cases e
 |_=>cases x<;>cases e
theorem P7(hK:X.K=G.K:=by rfl):IxR X (rIx G.K):=by rw[<-hK];exact K7
def zf(G:Bg)(r:List V->Hp->VK->Prop)(g:D->Option D):Prop:=∀x z H0 H v (Q:VK),g x=some z->nE H0 H->Rep G H0 x v->(∀w,(∀H0',nE H0 H0'->Rep G H0' z w)->Q w H)->r [v] H Q
theorem J8{r:List V->Hp->VK->Prop}{g:D->Option D}(hr:zf G r g)(h:PE X e (tCB r (tFA G (aCons f n6)))):PE X e (tF G (c1 g f)):=PE.weak h λσ H Q hh=>by obtain⟨F,ρ,H0,d,ρ',R,e,k⟩:=hh;obtain⟨x,e1,e2⟩:=xA e;refine⟨F,ρ,H0,[x],ρ',R,by unfold aCons;rw[e1];rfl,λys H1 H1' s R' rs=>?_⟩;unfold ny at rs;obtain⟨v,r0,rfl,rv,rn⟩:=rs;unfold ny at rn;subst rn;exact hr x d H1 H1' v Q e2 R'.sub rv λw hw=>k _ _ _ s R' (hw _ (nE.refl _))
theorem pD.or{f:aa}{r r':List V->Hp->VK->Prop}(h:pD X f r)(h':pD X f r'):pD X f (λx H Q=>r x H Q\/r' x H Q):=λpins s σ H xs us Q I rv q=>q.elim (h pins s σ H xs us Q I rv) (h' pins s σ H xs us Q I rv)
def oR:D->Option D
 |.tup ds=>some (.int ds.length)
 |.lst ds=>some (.int ds.length)
 |.fzl ds=>some (.int ds.length)
 |.str x=>if x.length<=100000 then some (.int x.length)else none
 |.dic ks ds=>some (.int ks.length)
 |_=>none
theorem El:pD X (.builtin "len") (λxs H Q=>∃a kvs,xs=[V.ref a]/\Rd H a (.dK kvs)/\Q (.int kvs.length) H):=by intro pins s σ H xs us Q I r h;obtain⟨a,kvs,rfl,ha,q⟩:=h;obtain⟨u,rfl,ru⟩:=vals1 r;cases ru;exact Oz I ha λt s' I'=>⟨.int kvs.length,H,I',⟨t,rfl⟩,q⟩
def J9(K:aj):List V->Hp->VK->Prop:=λxs H Q=>(∃p ys,xs=[.ref p]/\(SqL K H p ys\/SqT K H p ys)/\Q (.int ys.length) H)\/((∃z,xs=[.str z]/\z.length<=ay/\Q (.int z.length) H)\/(∃a kvs,xs=[V.ref a]/\Rd H a (.dK kvs)/\Q (.int kvs.length) H))
theorem Em(hK:X.K=G.K:=by rfl):pD X (.builtin "len") (J9 G.K):=by rw[<-hK];exact pD.or zQ (pD.or zR El)
theorem LO:zf G (J9 G.K) oR:=λx z H0 H v Q e s rx k=>by
 cases x with
 |tup ds=>cases e;unfold Rep at rx;obtain⟨a,xs,rfl,h1,h2⟩:=rx;refine .inl ⟨a,xs,rfl,.inr (SqT.mono s h1),?_⟩;rw[<-nu h2];exact k _ λ_ _=>o8 _
 |lst ds=>cases e;unfold Rep at rx;obtain⟨a,xs,rfl,h1,h2⟩:=rx;refine .inl ⟨a,xs,rfl,.inl (s.seq (SqL.of h1)),?_⟩;rw[<-nu h2];exact k _ λ_ _=>o8 _
 |fzl ds=>cases e;unfold Rep at rx;obtain⟨a,xs,rfl,h1,h2⟩:=rx;refine .inl ⟨a,xs,rfl,.inl (s.seq h1),?_⟩;rw[<-nu h2];exact k _ λ_ _=>o8 _
 |str t=>
  unfold oR at e;simp only at e;split at e
  ·rename_i hl;cases e;unfold Rep at rx;exact .inr (.inl ⟨t,by rw[rx],Ba hl,k _ λ_ _=>o8 _⟩)
  ·cases e
 |dic ks ds=>cases e;unfold Rep at rx;obtain⟨a,o,xs,rfl,h1,h2,h3⟩:=rx;refine .inr (.inr ⟨a,_,rfl,.inr ⟨o,s _ _ h1⟩,?_⟩);rw[fJ,<- h2,fO];exact k _ λ_ _=>o8 _
 |_=>cases e
def LP:D->Option D
 |.int i=>some (.int i)
 |.bl b=>some (.int (if b then 1 else 0))
 |_=>none
theorem LQ:zf G (λxs H Q=>(∃i,xs=[.int i]/\Q (.int i) H)\/∃k,xs=[.bl k]/\Q (.int (if k then 1 else 0)) H) LP:=λx z H0 H v Q e s rx k=>by
 cases x with
 |int i=>cases e;unfold Rep at rx;subst rx;exact .inl ⟨i,rfl,k _ λ_ _=>o8 _⟩
 |bl b=>cases e;unfold Rep at rx;subst rx;exact .inr ⟨b,rfl,k _ λ_ _=>o8 _⟩
 |_=>cases e
def yT:List D->Option (List Bool)
 |[]=>some []
 |.bl b::r=>(yT r).map (b::·)
 |_=>none
theorem yb:∀{ds:List D} {xs:List V} {bs:List Bool},ny G H ds xs->yT ds=some bs->xs=bs.map V.bl
 |[],xs,bs,h,e=>by cases e;unfold ny at h;exact h
 |.bl b::r,xs,bs,h,e=>by
  unfold ny at h;obtain⟨v,q,rfl,h1,h2⟩:=h;unfold yT at e;cases e1:yT r with
  |none=>rw[e1]at e;cases e
  |some l=>rw[e1]at e;cases e;unfold Rep at h1;subst h1;rw[yb h2 e1];rfl
 |.non::r,xs,bs,h,e=>by cases e
 |.int _::r,xs,bs,h,e=>by cases e
 |.str _::r,xs,bs,h,e=>by cases e
 |.tup _::r,xs,bs,h,e=>by cases e
 |.lst _::r,xs,bs,h,e=>by cases e
 |.fzl _::r,xs,bs,h,e=>by cases e
 |.obj _ _ _::r,xs,bs,h,e=>by cases e
 |.dic _ _::r,xs,bs,h,e=>by cases e
def pL:D->Option D
 |.lst ds=>(yT ds).map λbs=>.bl (bs.all id)
 |_=>none
theorem LR:zf G (λxs H Q=>∃(p:Addr) (bs:List Bool),xs=[.ref p]/\SqL G.K H p (bs.map V.bl)/\Q (.bl (bs.all id)) H) pL:=λx z H0 H v Q e s rx k=>by
 cases x with
 |lst ds=>
  unfold pL at e;simp only at e;cases e1:yT ds with
  |none=>rw[e1]at e;cases e
  |some bs=>rw[e1]at e;cases e;unfold Rep at rx;obtain⟨a,xs,rfl,h1,h2⟩:=rx;rw[yb h2 e1]at h1;exact⟨a,bs,rfl,s.seq (SqL.of h1),k _ λ_ _=>qh _⟩
 |_=>cases e
theorem En(hc:X.calm=true)(hK:X.K=G.K:=by rfl):pD X (.builtin "all") (λxs H Q=>∃(p:Addr) (bs:List Bool),xs=[.ref p]/\SqL G.K H p (bs.map V.bl)/\Q (.bl (bs.all id)) H):=by rw[<-hK];exact Fg hc
inductive Ty where
 |b (n:String)|c (k:Nat)
def Ty.val(G:Bg):Ty->aa
 |.b n=>.type n
 |.c k=>.ref (G.ca k)
def Ty.v(G:Bg):Ty->V
 |.b n=>.ty n
 |.c k=>.ref (G.ca k)
def tyD:D->Ty
 |.non=>.b "NoneType" |.bl _=>.b "bool" |.int _=>.b "int" |.str _=>.b "str" |.tup _=>.b "tuple" |.lst _=>.b "list" |.fzl _=>.b "list" |.dic _ _=>.b "dict" |.obj c _ _=>.c c
structure Eo(K:aj)(C:Addr):Prop where
 cl:Cls K C
 ha:cg K (.ref C) "__class__" = some (some (.builtin "object.__class__"))
 hn:lg K (.builtin "object.__class__") "__get__" = some (some (.builtin "getset_descriptor.__get__"))
 htk:W.takesIn K (.builtin "object.__class__")=some true
 hm:W.mroIn K C (.type "object")=some true
theorem FQ{pins:List (Addr×Obj)}{s:ae}{A:av}{E:aa->ae->Prop}{Q:aa->ae->Prop}{c:aa}{b:Bool}{v:V}{u:aa}(I:Inv X pins σ H s)(hK:X.K=G.K)(hd:Rep G H d v)(rv:RelV v u)(hc:∀k ns ds,d=.obj k ns ds->Eo X.K (G.ca k))
  (e:cj X.K ((tyD d).val G) c=some b) (h:∀tk,Q (.bool b) { s with toks:=tk }):ah (model X.prog X.w) A (call (.builtin "isinstance") [u,c]) Q E s:=by
 cases d with
 |non=>unfold Rep at hd;subst hd;exact rE I rv .non e h
 |bl x=>unfold Rep at hd;subst hd;exact rE I rv (.bl x) e h
 |int x=>unfold Rep at hd;subst hd;exact rE I rv (.int x) e h
 |str x=>unfold Rep at hd;subst hd;exact rE I rv (.str x) e h
 |tup ds=>unfold Rep at hd;obtain⟨a,xs,rfl,h1,h2⟩:=hd;cases rv;rw[<-hK]at h1;obtain⟨its,_,p,_⟩:=I.tuple h1;obtain⟨o,q1,q2,_⟩:=p;exact bY kR I.kIn ⟨o,q1,q2⟩ e (λz=>nomatch z) h
 |lst ds=>unfold Rep at hd;obtain⟨a,xs,rfl,h1,h2⟩:=hd;exact rE I rv (.lst h1) e h
 |fzl ds=>unfold Rep at hd;obtain⟨a,xs,rfl,h1,h2⟩:=hd;cases rv;rw[<-hK]at h1;obtain⟨its,_,p,_⟩:=I.list h1;obtain⟨o,n,q1,q2,_⟩:=p;exact bY iU I.kIn ⟨o,q1,q2⟩ e (λz=>nomatch z) h
 |dic ks ds=>unfold Rep at hd;obtain⟨a,o,xs,rfl,h1,h2,h3⟩:=hd;cases rv;obtain⟨q0,_,_,vs,_,ob,es,ep,q1,q2,_⟩:=(show oP X.prog X.w H s.heap a (.frz o (.dK (ks.zip xs))) from I.hok a _ h1);exact bY iV I.kIn ⟨ob,q1,q2.1⟩ e (λz=>nomatch z) h
 |obj k ns ds=>have ci:=hc k ns ds rfl;unfold Rep at hd;obtain⟨a,dx,xs,rfl,h1,h2,h3⟩:=hd;exact rE I rv (.ins h1 ci.cl ci.ha ci.hn ci.htk ci.hm) e h
def qB(t:Ty->Option Bool):D->Option D:=λd=>(t (tyD d)).map .bl
theorem zg(c:Ty){t:Ty->Option Bool}(ht:∀y b,t y=some b->cj X.K (y.val G) (c.val G)=some b)(hc:∀k b,t (.c k)=some b->Eo X.K (G.ca k))(hK:X.K=G.K:=by rfl):
  pD X (.builtin "isinstance") (λxs H Q=>∃d x b,xs=[x,c.v G]/\Rep G H d x/\t (tyD d)=some b/\Q (.bl b) H):=by
 intro pins s σ H xs us Q I r h;obtain⟨d,x,b,rfl,hd,e,q⟩:=h;obtain⟨u,w',rfl,ru,rw'⟩:=vals2 r;have ew:w'=c.val G:=by cases c<;>exact rw'
 subst ew;exact FQ I hK hd ru (λk ns ds z=>by subst z;exact hc k b e) (ht _ _ e) λtk=>⟨.bl b,H,I.tok _,rfl,q⟩
theorem CW{c:Ty}{t:Ty->Option Bool}(h:PE X e (tCB (λxs H Q=>∃d x b,xs=[x,c.v G]/\Rep G H d x/\t (tyD d)=some b/\Q (.bl b) H) (xM (tF G f) (xM (tC (c.v G)) zK)))):PE X e (tF G (c1 (qB t) f)):=PE.weak h λσ H Q hh=>by
 obtain⟨F,ρ,H0,d,ρ',R,e,k⟩:=hh;obtain⟨x,e1,e2⟩:=xA e;unfold qB at e2;cases e3:t (tyD x)with
 |none=>rw[e3]at e2;cases e2
 |some b=>rw[e3]at e2;cases e2;exact⟨F,ρ,H0,x,ρ',R,e1,λv H1 H1' s R' r=>⟨x,v,b,rfl,Rep.mono R'.sub _ _ r,e3,k _ _ _ s R' (qh b)⟩⟩
def o4(f g:FE):FA:=λρ=>match f ρ with
 |some (.lst xs,ρ1)=>match g ρ1 with
  |some (.lst ys,ρ2)=>if xs.length+ys.length<=1000 then some (xs++ys,ρ2)else none
  |_=>none
 |_=>none
theorem IQ{a b:Expr}{g:FE}(ha:PE X a (tF G f))(hb:PE X b (tF G g)):PE X (.BinOp a .Add b pos) (tFN G (o4 f g)):=PE.weak (EW K9 ha hb) λσ H Q hh=>by
 obtain⟨F,ρ,H0,d,ρ',R,e,k⟩:=hh;unfold o4 at e;split at e
 ·rename_i xs ρ1 e1;split at e
  ·rename_i ys ρ2 e2;split at e
   ·rename_i hl;cases e;refine⟨F,ρ,H0,_,ρ1,R,e1,λv H1 H1' s R' r=>⟨F,ρ1,H1,_,_,R',e2,λu H2 H2' s2 R2 r2=>?_⟩⟩;have r':=Rep.mono s2 _ _ r;unfold Rep at r' r2;obtain⟨a1,xs1,rfl,h1,h2⟩:=r';obtain⟨a2,xs2,rfl,h3,h4⟩:=r2;refine⟨a1,a2,xs1,xs2,rfl,rfl,R2.sub _ _ h1,R2.sub _ _ h3,by rw[<-nu h2,<- nu h4];exact qM hl,λp hp=>?_⟩;exact k p _ _ _ (s.trans s2) (R2.newOwn hp _) nI (R2.h0none hp) (R2.bNone hp) (R2.apart hp) (o9 h2 h4)
   ·cases e
  ·cases e
 ·cases e
def uQ(f:FE):FA:=λρ=>match f ρ with
 |some (d,ρ1)=>match FP d with
  |some ds=>some (ds,ρ1)
  |none=>none
 |none=>none
theorem FR(h:PE X e (tCB (λxs H Q=>∃p ys,xs=[.ref p]/\(SqL G.K H p ys\/SqT G.K H p ys)/\∀l,H l=none->Q (.ref l) (upd H l (.lst ys))) (tFA G (aCons f n6)))):PE X e (tFN G (uQ f)):=PE.weak h λσ H Q hh=>by
 obtain⟨F,ρ,H0,ds,ρ',R,e,k⟩:=hh;unfold uQ at e;rcases nN (f:=f) (ρ:=ρ)with e1|⟨d,ρ1,e1⟩<;>simp only[e1]at e
 ·cases e
 ·cases e2:FP d with
  |none=>simp only[e2]at e;cases e
  |some ds'=>simp only[e2]at e;cases e;refine⟨F,ρ,H0,[d],_,R,by unfold aCons;rw[e1];rfl,λys H1 H1' s R' rs=>?_⟩;unfold ny at rs;obtain⟨v,r0,rfl,rv,rn⟩:=rs;unfold ny at rn;subst rn;obtain⟨p,xs,rfl,h1,h2⟩:=CU rv e2;exact⟨p,xs,rfl,CV R'.sub h1,λl hl=>k l _ _ _ s (R'.newOwn hl _) nI (R'.h0none hl) (R'.bNone hl) (R'.apart hl) h2⟩
theorem BZ(hK:X.K=G.K:=by rfl):pD X (.type "list") (λxs H Q=>∃p ys,xs=[.ref p]/\(SqL G.K H p ys\/SqT G.K H p ys)/\∀l,H l=none->Q (.ref l) (upd H l (.lst ys))):=by rw[<-hK];exact zS
def cutD(xs:List D)(lo hi:Option Int):List D:=(xs.drop (HT.sIx xs.length 0 lo)).take (HT.sIx xs.length xs.length hi - HT.sIx xs.length 0 lo)
theorem FU{lo hi:Option Int}(r:ny G H0 ds xs):ny G H0 (cutD ds lo hi) (D3 xs lo hi):=by unfold cutD D3;rw[<-nu r];exact zb _ (za _ r)
theorem P8(hK:X.K=G.K:=by rfl):SlR X (HK G.K):=by rw[<-hK];exact HL
end
def Sl.bor:Sl->Sl
 |.un=>.un
 |.im d=>.im d
 |.ls ds=>.im (.lst ds)
 |.pm ds=>.im (.lst ds)
 |.dk _ _=>.un
 |.ob c ns ds=>.im (.obj c ns ds)
variable{fa fb fc:FE}{op':eB}
section
variable{X:Cx}{G:Bg}
theorem nM.bor{H:Hp}(R:nM G F σ ρ H0 H):nM G ⟨H,H,[]⟩ σ (ρ.map Sl.bor) H H where
 sub:=nE.refl _
 g0:=nE.refl _
 keep:=λb o e _=>e
 fr:=λb o e=>.inl e
 am:=λa h=>by cases h
 len:=by rw[af];exact R.len
 sl:=λi s e=>by
  rw[aZ]at e;cases e1:ρ[i]? with
  |none=>rw[e1]at e;cases e
  |some t=>
   rw[e1]at e;cases e;have ok:=R.sl i t e1;cases t with
   |un=>trivial
   |im d=>obtain⟨v,h1,h2⟩:=ok;exact⟨v,h1,Rep.mono R.sub _ _ h2⟩
   |ls ds=>obtain⟨a,xs,h1,h2,h3,h4,h5⟩:=ok;exact⟨_,h1,r9 h2 (ny.mono R.sub _ _ h5)⟩
   |pm ds=>obtain⟨a,xs,h1,h2,h3,h4,h5⟩:=ok;exact⟨_,h1,r9 h2 (ny.mono R.sub _ _ h5)⟩
   |dk ks ds=>trivial
   |ob c ns ds=>obtain⟨a,dx,xs,h1,h2,h3,h4,h5,h6⟩:=ok;exact⟨_,h1,by unfold Rep;exact⟨a,dx,xs,rfl,h2,h5,ny.mono R.sub _ _ h6⟩⟩
 ap:=λi j s t a _ e _ so=>by
  rw[aZ]at e;cases e1:ρ[i]? with
  |none=>rw[e1]at e;cases e
  |some t=>rw[e1]at e;cases e;cases t<;>cases so
theorem nM.unbor{σ':St}{H:Hp}(R:nM G F σ ρ H0 H)(R':nM G ⟨H,H,[]⟩ σ' ρ' H1 H1'):nM G F σ ρ H0 H1':=
 R.grow (λb o e=>R'.keep b o e (by simp)) (nE.refl _) (λb o e=>R'.keep b o (R.sub _ _ e) (by simp)) λb o e=>.inl e
def tG(f:FE):FE:=λρ=>match f (ρ.map Sl.bor)with
 |some (d,_)=>if pR d=true then some (d,ρ)else none
 |none=>none
def rp(f:FT):FT:=λρ=>match f (ρ.map Sl.bor)with
 |some (d,_)=>some (d,ρ)
 |none=>none
theorem LS(h:PE X e (tF G f)):PE X e (tF G (tG f)):=PE.weak h λσ H Q hh=>by
 obtain⟨F,ρ,H0,d,ρ',R,e,k⟩:=hh;unfold tG at e;rcases nN (f:=f) (ρ:=ρ.map Sl.bor)with e1|⟨x,ρ1,e1⟩<;>simp only[e1]at e
 ·cases e
 ·split at e
  ·rename_i hf;cases e;refine⟨_,_,H,d,ρ1,R.bor,e1,λv H1 H1' s R' r=>?_⟩;rw[qT r hf];exact k _ _ _ (nE.refl _) (R.unbor R') (vJ hf _)
  ·cases e
theorem IR{f:FT}(h:PT X e (tFT G f)):PT X e (tFT G (rp f)):=PT.weak h λσ H Q hh=>by
 obtain⟨F,ρ,H0,d,ρ',R,e,k⟩:=hh;unfold rp at e;rcases nN (f:=f) (ρ:=ρ.map Sl.bor)with e1|⟨x,ρ1,e1⟩<;>simp only[e1]at e
 ·cases e
 ·cases e;exact⟨_,_,H,d,ρ1,R.bor,e1,λH1 H1' s R'=>k _ _ (nE.refl _) (R.unbor R')⟩
def qj(g g':D->D->Option D)(fa fb fc:FE):FE:=λρ=>match fa ρ with
 |some (x,ρ1)=>match fb ρ1 with
  |some (y,ρ2)=>match g x y with
   |some (.bl true)=>match fc ρ2 with
    |some (z,ρ3)=>match g' y z with
     |some w=>some (w,ρ3)
     |none=>none
    |none=>none
   |some (.bl false)=>some (.bl false,ρ2)
   |_=>none
  |none=>none
 |none=>none
theorem Bb{r:R2}{g:D->D->Option D}(ho:OpD G r g)(ho':OpD G r' g'):∀σ H Q,tF G (qj g g' fa fb fc) σ H Q->BJ r r' (tF G fa) (tF G fb) (tF G fc) σ H Q:=λσ H Q hh=>by
 obtain⟨F,ρ,H0,d,ρ',R,e,k⟩:=hh;unfold qj at e;rcases nN (f:=fa) (ρ:=ρ)with e1|⟨x,ρ1,e1⟩<;>simp only[e1]at e
 ·cases e
 rcases nN (f:=fb) (ρ:=ρ1)with e2|⟨y,ρ2,e2⟩<;>simp only[e2]at e
 ·cases e
 refine⟨F,ρ,H0,x,ρ1,R,e1,λv H1 H1' s1 R1 r1=>⟨F,ρ1,H1,y,ρ2,R1,e2,λu H2 H2' s2 R2 r2=>?_⟩⟩;split at e
 ·rename_i e3;refine ho x y _ H2 H2' v u _ e3 R2.sub (Rep.mono s2 _ _ r1) r2 λw hw=>?_;have hw':=hw H2 (nE.refl _);unfold Rep at hw';refine⟨true,hw',zW ?_⟩;rcases nN (f:=fc) (ρ:=ρ2)with e4|⟨z,ρ3,e4⟩<;>simp only[e4]at e
  ·cases e
  cases e5:g' y z with
  |none=>simp only[e5]at e;cases e
  |some q=>simp only[e5]at e;cases e;refine⟨F,ρ2,H2,z,_,R2,e4,λt H3 H3' s3 R3 r3=>?_⟩;exact ho' y z _ H3 H3' u t Q e5 R3.sub (Rep.mono s3 _ _ r2) r3 λw hw=>k w H3 H3' (s1.trans (s2.trans s3)) R3 (hw _ (nE.refl _))
 ·rename_i e3;cases e;refine ho x y _ H2 H2' v u _ e3 R2.sub (Rep.mono s2 _ _ r1) r2 λw hw=>?_;have hw':=hw H2 (nE.refl _);unfold Rep at hw';exact⟨false,hw',zV (k _ _ _ (s1.trans s2) R2 (qh false))⟩
 ·cases e
theorem FV{a b c:Expr}{r:R2}{g:D->D->Option D}(hr:OpR X (aW op) r)(hr':OpR X (aW op') r')(ho:OpD G r g)(ho':OpD G r' g')(ha:PE X a (tF G fa))(hb:PE X b (tF G fb))(hc:PE X c (tF G fc))
  (hm:lastMarks [op,op'] [b,c]=false:=by with_unfolding_all rfl):PE X (.Compare a [op,op'] [b,c] pos) (tF G (qj g g' fa fb fc)):=PE.weak (E1 hr hr' ha hb hc hm) (Bb ho ho')
theorem Ep{a b c:Expr}{r:R2}{g:D->D->Option D}(hr:OpR X (aW op) r)(hr':OpR X (aW op') r')(ho:OpD G r g)(ho':OpD G r' g')(ha:PE X a (tF G fa))(hb:PE X b (tF G fb))(hc:PE X c (tF G fc))
  (hm:lastMarks [op,op'] [b,c]=false:=by with_unfolding_all rfl):PT X (.Compare a [op,op'] [b,c] pos) (tFT G (cT (qj g g' fa fb fc))):=PT.weak (E2 hr hr' ha hb hc hm) λσ H Q hh=>by
 obtain⟨F,ρ,H0,d,ρ',R,e,k⟩:=CO σ H Q hh;exact Bb ho ho' σ H _ ⟨F,ρ,H0,d,ρ',R,e,k⟩
end
def sL(P:ar)(w:ao)(K:aj)(mg:Str->Option aa)(base:Heap)(k:Nat)(x:Str)(ps:List Str)(sp:Sp):Prop:=
 ∃(f:Addr) (fd:bo),mg x=some (.ref f)/\cG K (.ref f)=true/\Binds K fd ps []/\qu P w K mg base CX0 k f fd ps sp
def Aa(G:Bg)(P:ar)(w:ao)(mg:Str->Option aa)(base:Heap)(k:Nat)(x:Str)(c:Nat)(ps:List Str)(dvs:List V)(g:List D->Option (List Str×List D)):Prop:=
 ∃(f:Addr) (fd:bo) (ds:List aa),Mk G.K (G.ca c) f/\mg x=some (.ref (G.ca c))/\Binds G.K fd ps ds/\Vals dvs ds/\qu P w G.K mg base CX0 k f fd ps (spI G c g)
def wq(G:Bg)(P:ar)(w:ao)(mg:Str->Option aa)(base:Heap)(k:Nat)(m:Str)(c:Nat)(h:List D->Option D):Prop:=
 ∃(f:Addr) (fd:bo) (ps:List Str),Cls G.K (G.ca c)/\Meth G.K (G.ca c) m f/\Binds G.K fd ps []/\qu P w G.K mg base CX0 k f fd ps (spF G h)
section
variable{X:Cx}{G:Bg}{k:Nat}{x m:Str}{p pos apos:Pos}{e o:Expr}{es:List Expr}{a:FA}{ps:List Str}
theorem wO{α:Type}(g:List D->α):(λds=>g (ds++[]))=g:=funext λds=>by rw[bh]
theorem LU{g:List D->Option D}(D:sL X.prog X.w X.K X.mg X.base k x ps (spF G g))(hr:oQ k X.A)(ha:PA X (e::es) (tFA G a))(hg:Gl X x:=by rfl)(hdb:(x==("__debug__" : Str))=false:=by decide)(he:aq (e::es) X.env=(false,eval e X.env)::aq es X.env:=by rfl)(hpl:(aX pos (aq es X.env)).any (·.1)=false:=by rfl):
  PE X (.Call (.Name x p) (e::es) [] pos) (tF G (nv g a)):=by
 obtain⟨f,fd,h1,h2,h3,h4⟩:=D;have q:=IC (dvs:=[]) (dds:=[]) (λ_=>nY) (vw (p:=p) (pos:=pos) h4 hr hg h1 h2 h3 .nil wL ha hdb he hpl);rw[wO]at q;exact q
theorem IS{g:List D->Option D}(D:sL X.prog X.w X.K X.mg X.base k x ps (spF G g))(hr:oQ k X.A)(hg:Gl X x:=by rfl)(hdb:(x==("__debug__" : Str))=false:=by decide):PE X (.Call (.Name x p) [] [] pos) (tF G (nv g n6)):=by obtain⟨f,fd,h1,h2,h3,h4⟩:=D;exact Fy (AK h4 hr hg h1 h2 h3 .nil wL hdb)
theorem IT{g:List D->Option (List D)}(D:sL X.prog X.w X.K X.mg X.base k x ps (spN G g))(hr:oQ k X.A)(ha:PA X (e::es) (tFA G a))(hg:Gl X x:=by rfl)(hdb:(x==("__debug__" : Str))=false:=by decide)(he:aq (e::es) X.env=(false,eval e X.env)::aq es X.env:=by rfl)(hpl:(aX pos (aq es X.env)).any (·.1)=false:=by rfl):
  PE X (.Call (.Name x p) (e::es) [] pos) (tFN G (oN g a)):=by
 obtain⟨f,fd,h1,h2,h3,h4⟩:=D;have q:=Fw (dvs:=[]) (dds:=[]) (λ_=>nY) (vw (p:=p) (pos:=pos) h4 hr hg h1 h2 h3 .nil wL ha hdb he hpl);rw[wO]at q;exact q
theorem FW{g:List D->Option (List D)}(D:sL X.prog X.w X.K X.mg X.base k x ps (spN G g))(hr:oQ k X.A)(hg:Gl X x:=by rfl)(hdb:(x==("__debug__" : Str))=false:=by decide):PE X (.Call (.Name x p) [] [] pos) (tFN G (oN g n6)):=by obtain⟨f,fd,h1,h2,h3,h4⟩:=D;exact Ee (AK h4 hr hg h1 h2 h3 .nil wL hdb)
theorem IU{g:List D->List D->Option (D×List D)}(D:sL X.prog X.w X.K X.mg X.base k x ps (spM G g))(hr:oQ k X.A)(hv:PE X e (rW i))(ha:PA X es (tFA G a))(hg:Gl X x:=by rfl)(hdb:(x==("__debug__" : Str))=false:=by decide)(he:aq (e::es) X.env=(false,eval e X.env)::aq es X.env:=by rfl)(hpl:(aX pos (aq es X.env)).any (·.1)=false:=by rfl):
  PE X (.Call (.Name x p) (e::es) [] pos) (tF G (p7 g i a)):=by
 obtain⟨f,fd,h1,h2,h3,h4⟩:=D;exact Lv (vw (p:=p) (pos:=pos) h4 hr hg h1 h2 h3 .nil wL (qg hv ha he) hdb he hpl)
theorem IV{g:List D->Option (List Str×List D)}(M:Aa G X.prog X.w X.mg X.base k x c ps dvs g)(hd:∀H,ny G H dds dvs)(hr:oQ (k+1) X.A)(ha:PA X (e::es) (tFA G a))(hK:X.K=G.K:=by rfl)(hg:Gl X x:=by rfl)(hdb:(x==("__debug__" : Str))=false:=by decide)
  (he:aq (e::es) X.env=(false,eval e X.env)::aq es X.env:=by rfl) (hpl:(aX pos (aq es X.env)).any (·.1)=false:=by rfl):
  PE X (.Call (.Name x p) (e::es) [] pos) (tF G (nU c (λds=>g (ds++dds)) a)):=by
 obtain⟨f,fd,ds,h1,h2,h3,h4,h5⟩:=M;rw[<-hK]at h1 h3 h5;exact IE hd (HD (p:=p) (pos:=pos) h1 h5 hr hg h2 h3 h4 wL ha hdb he hpl)
theorem Ka{g:Nat->Option (List D->Option D)}(M:∀c h,g c=some h->wq G X.prog X.w X.mg X.base k m c h)(hr:oQ k X.A)(hK:X.K=G.K):∀C sp,MT G g C sp->MOk X C m sp [] E0:=λC sp h=>by obtain⟨c,h,e,rfl,rfl⟩:=h;obtain⟨f,fd,ps,q1,q2,q3,q4⟩:=M c h e;rw[<-hK]at q1 q2 q3 q4;exact⟨k,f,fd,ps,[],q1,q2,q4,hr,q3,.nil,wL⟩
theorem Er{g:Nat->Option (List D->Option D)}{pl:Sem Bool}(M:∀c h,g c=some h->wq G X.prog X.w X.mg X.base k m c h)(hr:oQ k X.A)(ho:PE X o (tF G f))(ha:PA X (e::es) (tFA G a))(hK:X.K=G.K:=by rfl)
  (hst:aq (e::es) X.env=(false,eval e X.env)::aq es X.env:=by rfl) (hpl:(aX pos (aq es X.env)).any (·.1)=false:=by rfl)
  (ht:eval (.Call (.Attribute o m apos) (e::es) [] pos) X.env=(do
   let ov<-eval o X.env
   standAt apos.atName
   let (f,first)<-holding [ov] (getMethod ov m pl)
   callWith pos f first (aX pos (aq (e::es) X.env)) (backToKw pos (df [] X.env))):=by rfl):
  PE X (.Call (.Attribute o m apos) (e::es) [] pos) (tF G (qo g m f a)):=ID (E:=E0) (FC (dvs:=[]) (MT G g) (Ka M hr hK) ho ha hst hpl ht)
theorem B2{g:Nat->Option (List D->Option D)}{pl:Sem Bool}(M:∀c h,g c=some h->wq G X.prog X.w X.mg X.base k m c h)(hr:oQ k X.A)(ho:PE X o (tF G f))(hK:X.K=G.K:=by rfl)
  (ht:eval (.Call (.Attribute o m apos) [] [] pos) X.env=(do
   let ov<-eval o X.env
   standAt apos.atName
   let (f,first)<-holding [ov] (getMethod ov m pl)
   callWith pos f first (aX pos (aq [] X.env)) (backToKw pos (df [] X.env))):=by rfl):
  PE X (.Call (.Attribute o m apos) [] [] pos) (tF G (qo g m f n6)):=FD (E:=E0) (Eg (dvs:=[]) (MT G g) (Ka M hr hK) ho ht)
end
section
variable{P:ar}{w:ao}{K:aj}{mg:Str->Option aa}{base:Heap}{x qual:Str}{st:Stmt}{f T:Addr}{fd:bo}{N ps:List Str}{k:Nat}{G:Bg}
abbrev tR(P:ar)(w:ao)(K:aj)(mg:Str->Option aa)(base:Heap)(N:List Str)(qual:Str)(st:Stmt)(f:Addr)(cdv:aa)(A:av)(outer:List Env)(s:ae)(H:Hp)(E:XK):Cx:=(zM CX0 P w K mg base N qual (nG st) f cdv A outer s H E).nox
theorem FX{n:Nat}{g:List D->Option D}(hg:g=fnD np n b)(hp:ps.length=np)(hN:N.length=n)(F:Fun K x qual st f fd)(S:oX N ps (nG st))(body:∀(cdv:aa) (A:av) (outer:List Env) (s:ae) (H:Hp) (E:XK),oQ k (A.deeper (envOfC qual (nG st) s.heap.objs.size f cdv))->PSs (tR P w K mg base N qual st f cdv A outer s H E) (nV st) (tFS G b)):
  qu P w K mg base CX0 (k+1) f fd ps (spF G g):=by
 subst hg hp hN;exact F.ok S (OK Iw) λcdv A outer s H vs Q E hr h=>⟨_,body cdv A outer s H E hr,Iu (by have:=aM bM S.pre;rw[bf]at this;omega) h⟩
theorem OU{n:Nat}{g:List D->Option (List D)}(hg:g=fnN np n b)(hp:ps.length=np)(hN:N.length=n)(F:Fun K x qual st f fd)(S:oX N ps (nG st))(body:∀(cdv:aa) (A:av) (outer:List Env) (s:ae) (H:Hp) (E:XK),oQ k (A.deeper (envOfC qual (nG st) s.heap.objs.size f cdv))->PSs (tR P w K mg base N qual st f cdv A outer s H E) (nV st) (tFS G b)):
  qu P w K mg base CX0 (k+1) f fd ps (spN G g):=by
 subst hg hp hN;exact F.ok S (OL Iy) λcdv A outer s H vs Q E hr h=>⟨_,body cdv A outer s H E hr,Iv (by have:=aM bM S.pre;rw[bf]at this;omega) h⟩
theorem OV{n:Nat}{g:List D->List D->Option (D×List D)}{p:Str}{ps:List Str}(hg:g=fnM np n b)(hp:ps.length=np)(hN:N.length=n)(F:Fun K x qual st f fd)(S:oX N (p::ps) (nG st))(body:∀(cdv:aa) (A:av) (outer:List Env) (s:ae) (H:Hp) (E:XK),oQ k (A.deeper (envOfC qual (nG st) s.heap.objs.size f cdv))->PSs (tR P w K mg base N qual st f cdv A outer s H E) (nV st) (tFS G b)):
  qu P w K mg base CX0 (k+1) f fd (p::ps) (spM G g):=by
 subst hg hp hN;exact F.ok S (J4 IK) λcdv A outer s H vs Q E hr h=>⟨_,body cdv A outer s H E hr,IJ (by have:=aM bM S.pre;rw[bf,aD]at this;omega) h⟩
theorem Kb{g:List D->Option (List Str×List D)}(hg:∀ds q,g ds=some q->ds.length=np):∀vs H Q E,spI G c g vs H Q E->vs.length=np+1:=λvs H Q E h=>by obtain⟨p,dx,us,H0,ds,ns,es,rfl,_,_,_,r,e,_⟩:=h;rw[aD,<- nu r,hg _ _ e]
theorem OW{n:Nat}{g:List D->Option (List Str×List D)}{p:Str}{ps:List Str}(hg:g=fnI c np n b)(hp:ps.length=np)(hN:N.length=n)(F:Fun K x qual st f fd)(S:oX N (p::ps) (nG st))(body:∀(cdv:aa) (A:av) (outer:List Env) (s:ae) (H:Hp) (E:XK),oQ k (A.deeper (envOfC qual (nG st) s.heap.objs.size f cdv))->PSs (tR P w K mg base N qual st f cdv A outer s H E) (nV st) (tFS G b)):
  qu P w K mg base CX0 (k+1) f fd (p::ps) (spI G c g):=by
 subst hg hp hN;exact F.ok S (Kb λds q h=>(xY h).1) λcdv A outer s H vs Q E hr h=>⟨_,body cdv A outer s H E hr,z6 (by have:=aM bM S.pre;rw[bf,aD]at this;omega) h⟩
theorem LV{n:Nat}{g:List D->Option (List Str×List D)}{p:Str}{ps:List Str}(hg:g=fnI c np n b)(hp:ps.length=np)(hN:N.length=n)(F:Ec K x qual st f fd T)(S:oX N (p::ps) (nG st))(body:∀(cdv:aa) (A:av) (outer:List Env) (s:ae) (H:Hp) (E:XK),oQ k (A.deeper (envOfC qual (nG st) s.heap.objs.size f cdv))->PSs (tR P w K mg base N qual st f cdv A outer s H E) (nV st) (tFS G b)):
  qu P w K mg base CX0 (k+1) f fd (p::ps) (spI G c g):=by
 subst hg hp hN;exact F.ok S (Kb λds q h=>(xY h).1) λcdv A outer s H vs Q E hr h=>⟨_,body cdv A outer s H E hr,z6 (by have:=aM bM S.pre;rw[bf,aD]at this;omega) h⟩
end
section
variable{X:Cx}{G:Bg}
def uH(G:Bg)(mg:Str->Option aa)(x:Str)(d:D):Prop:=∃(v:V) (u:aa),mg x=some u/\RelV v u/\∀H,Rep G H d v
theorem FY{x:Str}(h:uH G X.mg x d)(hg:Gl X x:=by rfl)(hd:(x==("__debug__" : Str))=false:=by decide):PE X (.Name x pos) (tF G (cC d)):=by obtain⟨v,u,h1,h2,h3⟩:=h;exact HZ (Cs hg h1 h2 hd) h3
def sq(i:Nat)(j:Int)(f:FE):FS:=λρ=>match f ρ with
 |some (d,ρ1)=>match oM ρ1 i with
  |some ds=>match ixN ds.length j with
   |some k=>some (.nx (putAt ρ1 i (ds.set k d)))
   |none=>none
  |none=>none
 |none=>none
theorem Es{st:Stmt}{j:Int}(h:PS X st (uL (tF G f) (KL (rW i) (tC (.int j)) E7))):PS X st (tFS G (sq i j f)):=PS.weak h λE σ H hh=>by
 obtain⟨F,ρ,H0,o,R,e,k,k2⟩:=hh;unfold sq at e;rcases nN (f:=f) (ρ:=ρ)with e1|⟨d,ρ1,e1⟩<;>simp only[e1]at e
 ·cases e
 cases e2:oM ρ1 i with
 |none=>simp only[e2]at e;cases e
 |some ds=>
  simp only[e2]at e;cases e3:ixN ds.length j with
  |none=>simp only[e3]at e;cases e
  |some m=>simp only[e3]at e;cases e;refine⟨F,ρ,H0,d,ρ1,R,e1,λv H1 H1' s R' r=>?_⟩;obtain⟨a,xs,s1,s2,s3,s4⟩:=pF R' e2;exact⟨.ref a,s1,a,xs,j,m,rfl,rfl,s2,by rw[<-nu s3];exact e3,k _ _ _ s (s4 _ _ (xU m s3 r))⟩
def pG(T:String):Ty->Option Bool
 |.b n=>if n="NoneType" then some false else if n="bool" then some (T=="bool" ||T=="int")else if n="int" then some (T=="int")else if n="str" then some (T=="str")else if n="tuple" then some (T=="tuple")else if n="list" then some (T=="list")else if n="dict" then some (T=="dict")else none
 |.c _=>none
theorem FZ{T:String}:∀k b,pG T (.c k)=some b->Eo X.K (G.ca k):=λk b h=>by cases h
theorem F0:∀y b,pG "list" y=some b->cj X.K (y.val G) (.type "list")=some b:=λy b h=>by
 cases y with
 |c k=>cases h
 |b n=>
  unfold pG at h;simp only at h
  iterate 7 (split at h;· rename_i e;subst e;cases h;first|rfl|kernel_rfl)
  cases h
theorem IW:∀y b,pG "str" y=some b->cj X.K (y.val G) (.type "str")=some b:=λy b h=>by
 cases y with
 |c k=>cases h
 |b n=>
  unfold pG at h;simp only at h
  iterate 7 (split at h;· rename_i e;subst e;cases h;first|rfl|kernel_rfl)
  cases h
end
end L4
namespace L3
open PySem PySem.Spec PyProof.Rows L2
theorem IY{X:Cx}{i:Nat}{y:Str}{py spos:Pos}{elt iter tg:Expr}{ifs:List Expr}{scope:bT}{pos:Pos}{N':List Str}{k:Nat}{cap:List Nat}{wi:TI}{g:TG}{tt:TT}{te:TE}
  (hc:X.calm=true) (hN:X.N.Nodup) (hy:X.N[i]?=some y) (hyl:Loc X.env.scope y) (hi:PI X tg iter wi)
  (body:∀(cl:List (Str×Addr)) (C:Addr) (fp:List Addr) (s:ae) (H:Hp),PG (oT X N' scope cl C fp s H) tg g/\PIf (oT X N' scope cl C fp s H) ifs tt/\PE (oT X N' scope cl C fp s H) elt te)
  (hkind:scope.kind=.function:=by rfl) (hcell:(scope.names.all λy=>y.2 != .cell)=true:=by rfl)
  (hloc:(scope.names.all λy=>y.2 != .local||scope.names.lookup y.1==some .local)=true:=by rfl)
  (hfree:(scope.names.all λy=>y.2 != .free||(X.env.kindOf y.1==some .cell||X.env.kindOf y.1==some .free))=true:=by rfl)
  (hlen:N'.length=k+cap.length:=by rfl) (hcap:(N'.drop k).map some=cap.map λj=>X.N[j]?:=by rfl)
  (hcf:((N'.drop k).all λx=>scope.names.lookup x==some .free)=true:=by rfl)
  (hs:∀x,fC iter X.env x=pure x:=by intro _;rfl)
  (hsw:bX (.ListComp elt [⟨tg,iter,ifs,0⟩] scope pos) (some (.Name y py)) spos.line X.env=pure true:=by rfl)
  (hfy:X.fn y=true\/X.env.scope.names.lookup y=some .local:=by first|exact .inl rfl|exact .inr rfl|assumption):
  PS X (.Assign [.Name y py] (.ListComp elt [⟨tg,iter,ifs,0⟩] scope pos) spos) (uL (wM wi g tt te k cap) (r6 i)):=by
 intro pins s σ H D I h;rw[exec_Assign_Name_used _ _ _ _ hsw];refine au (iF (au ?_));show ah _ X.A (do let _<-comprehension (.ListComp elt [⟨tg,iter,ifs,0⟩] scope pos) scope X.env _ (newList []) false (eval iter X.env) (some (assign (.Name y py) X.env))) _ _ s;refine au (bx (y9 (P:=λ_ s'=>SP X pins D .next s') hc hi body hkind hcell hloc hfree hlen hcap hcf hs I h λa C m u s4 H3 hn back fpC qn=>?_) (λ_ s' hq=>aC (aC hq)) λ_ _ e=>e);obtain⟨oC,esC,nC,gC,dC,rC⟩:=id hn;have I7:=back.pinned (fp:=[C]) (λb hb=>aU.mp hb▸fpC) (λb hb=>aU.mp hb▸⟨oC,gC,λv z=>by rw[dC]at z;cases z⟩);show ah _ X.A (assign (.Name y py) X.env (.ref a)) _ _ s4;refine thn (Cu (pos:=py) hN hy hyl hfy _ s4 σ H3 (.ref a) (.ref a) (λσ' H'=>D.nx σ' H') I7 rfl qn) λ_ s6 zz=>?_;obtain⟨σ6,H6,I8,q6⟩:=zz;obtain⟨p1,p2,_⟩:=I8.pin (C,oC) (ba _ (ba _ (rH (by simp) gC)));exact⟨m,⟨oC,esC,nC,p1,dC,rC⟩,λh' hs'=>⟨σ6,H6,I8.unpinned.turned (t':=s6.toks) (λb o hb e=>(hs'.2 b hb).trans e) p2 fpC.2.1 fpC.2.2.2.1 fpC.2.2.2.2.1 fpC.2.2.2.2.2,q6⟩⟩
end L3
namespace L4
open PySem PySem.Spec PyProof.Rows L2 L3
variable{te:TE}{i:Nat}{ft:FT}{fe:FE}
section
variable{X:Cx}{G:Bg}
theorem yc{st:Stmt}{te':TE}{g:TG}(h:PS X st (uL te g))(w:∀σ H Q,te' σ H Q->te σ H Q):PS X st (uL te' g):=PS.weak h λE σ H hh=>w _ _ _ hh
theorem Et{st:Stmt}{k:Nat}{cap:List Nat}{s:FA}{g:FG}(nd:cap.Nodup)(h:PS X st (uL (wM (tFI G s) (tFG G k g) (tFT G ft) (tF G fe) k cap) (r6 i))):PS X st (tFS G (qy i (nJ k cap s g ft fe))):=A1 (yc h (z7 nd))
theorem F1{st:Stmt}{k:Nat}{cap:List Nat}{s:FA}{g:FG}(nd:cap.Nodup)(h:PS X st (uL (wM (tFI G s) (tFG G k g) (tFT G ft) (tF G fe) k cap) (r6 i))):PS X st (tFS G (ot i (cL (nJ k cap s g ft fe)))):=CQ (yc (yc h (z7 nd)) OJ)
end
variable{es0 es':List D}{np:Nat}{b:FS}
section
variable{f g h:FS}{c:FT}{e e' e2:FE}{a a':FA}{ρ ρ' ρ1 ρ2 ρ3:List Sl}{d x y z:D}{o:Out}{ds xs ys:List D}
theorem ni(h:f ρ=some (.nx ρ')):nz f g ρ=g ρ':=by unfold nz;rw[h]
theorem rF(h:f ρ=some (.rt d ρ')):nz f g ρ=some (.rt d ρ'):=by unfold nz;rw[h]
theorem se(h:c ρ=some (true,ρ')):sIf c f g ρ=f ρ':=by unfold sIf;rw[h]
theorem qQ(h:c ρ=some (false,ρ')):sIf c f g ρ=g ρ':=by unfold sIf;rw[h]
theorem ou(h:e ρ=some (d,ρ')):ot i e ρ=some (.nx (ρ'.set i (.im d))):=by unfold ot;rw[h]
theorem Ab(h:a ρ=some (ds,ρ')):qy i a ρ=some (.nx (ρ'.set i (.ls ds))):=by unfold qy;rw[h]
theorem qc(h:e ρ=some (d,ρ')):oK e ρ=some (.rt d ρ'):=by unfold oK;rw[h]
theorem tH(h:a ρ=some (ds,ρ')):pP a ρ=some (.rn ds ρ'):=by unfold pP;rw[h]
theorem uI(h:e ρ=some (d,ρ')):pQ e ρ=some (.nx ρ'):=by unfold pQ;rw[h]
theorem Bc{k:Nat}{j:Int}(h:e ρ=some (d,ρ1))(h1:oM ρ1 i=some ds)(h2:ixN ds.length j=some k):sq i j e ρ=some (.nx (putAt ρ1 i (ds.set k d))):=by unfold sq;rw[h];simp only[h1,h2]
theorem nW{g:D->D->Option D}(h1:e ρ=some (x,ρ1))(h2:e' ρ1=some (y,ρ2))(h3:g x y=some z):c2 g e e' ρ=some (z,ρ2):=by unfold c2;rw[h1];simp only[h2,h3]
theorem oi{g:D->Option D}(h1:e ρ=some (x,ρ1))(h3:g x=some z):c1 g e ρ=some (z,ρ1):=by unfold c1;rw[h1];simp only[h3]
theorem Ac(h1:e (ρ.map Sl.bor)=some (d,ρ1))(hf:pR d=true):tG e ρ=some (d,ρ):=by unfold tG;rw[h1];simp only[hf,if_true]
theorem CY{b:Bool}(h1:c (ρ.map Sl.bor)=some (b,ρ1)):rp c ρ=some (b,ρ):=by unfold rp;rw[h1]
theorem uN{b:Bool}(h1:e ρ=some (.bl b,ρ1)):cT e ρ=some (b,ρ1):=by unfold cT;rw[h1]
theorem nD(h1:e ρ=some (d,ρ1))(h2:a ρ1=some (ds,ρ2)):aCons e a ρ=some (d::ds,ρ2):=by unfold aCons;rw[h1];simp only[h2]
theorem nL{α:Type}{g:List D->Option α}{r:α}(h1:a ρ=some (ds,ρ1))(h2:g ds=some r):we g a ρ=some (r,ρ1):=by unfold we;rw[h1];simp only[h2]
theorem oU(h1:a ρ=some (ds,ρ1)):cL a ρ=some (.lst ds,ρ1):=by unfold cL;rw[h1]
theorem LW(h1:a ρ=some (ds,ρ1))(hl:ds.length<=1000):nP a ρ=some (ds,ρ1):=by unfold nP;rw[h1];simp only[hl,if_true]
theorem LX(h1:a ρ=some (ds,ρ1))(hl:ds.length<=1000):om a ρ=some (.tup ds,ρ1):=by unfold om;rw[h1];simp only[hl,if_true]
theorem qk(h1:e ρ=some (.lst xs,ρ1))(h2:e' ρ1=some (.lst ys,ρ2))(hl:xs.length+ys.length<=1000):o4 e e' ρ=some (xs++ys,ρ2):=by unfold o4;rw[h1];simp only[h2,hl,if_true]
theorem B3{g:List D->List D->Option (D×List D)}{es:List D}(h0:oM ρ i=some es0)(h1:a ρ=some (ds,ρ1))(h2:oM ρ1 i=some es)(h3:g es ds=some (d,es')):p7 g i a ρ=some (d,putAt ρ1 i es'):=by unfold p7;rw[h0];simp only[h1,h2,h3]
theorem Ad{es:List D}(h0:oM ρ i=some es0)(h1:e ρ=some (d,ρ1))(h2:oM ρ1 i=some es)(hl:es.length<1000):uM i e ρ=some (.non,putAt ρ1 i (es++[d])):=by unfold uM;rw[h0];simp only[h1,h2,hl,if_true]
theorem qZ{s:FA}{g:FG}(h1:s ρ=some (ds,ρ1)):sI s g f ρ=forL g f ds ρ1:=by unfold sI;rw[h1]
theorem xB{k:Nat}{cap:List Nat}{s:FA}{g:FG}(h1:s ρ=some (ds,ρ1))(hl:ds.length<=1000):nJ k cap s g ft fe ρ=qz k cap g ft fe ds ρ1:=by unfold nJ;rw[h1];simp only[hl,if_true]
theorem F2{n:Nat}{es:List D}(hl:ds.length=np)(h:b (L4.stM n es ds)=some (.rt d ρ))(h0:vG ρ=some es'):fnM np n b es ds=some (d,es'):=by unfold fnM;rw[ag hl,h];simp only[h0]
theorem LY{n:Nat}{es:List D}(hl:ds.length=np)(h:b (L4.stM n es ds)=some (.rn xs ρ))(h0:vG ρ=some es'):fnM np n b es ds=some (.lst xs,es'):=by unfold fnM;rw[ag hl,h];simp only[h0]
theorem Ae{n:Nat}(hl:ds.length=np)(h:b (L4.stE n ds)=some (.rn xs ρ)):fnN np n b ds=some xs:=by unfold fnN;rw[ag hl,h]
theorem pd{n:Nat}(hl:ds.length=np)(h:b (L4.stE n ds)=some (.rt d ρ)):fnD np n b ds=some d:=by unfold fnD;rw[ag hl,h]
end
def rY(es:List D):Prop:=(∃c,es=[.int c])\/∃q r n,es=[.int q,.int r,.int n]
theorem rG{a b:Int}(h:sm a=true\/sm b=true):rK (.int a) (.int b)=some (.int (a * b)):=by unfold rK dI;simp only;rw[ag (by simpa using h)]
theorem sf{a b:Int}(h:0<b):qe (.int a) (.int b)=some (.int (a % b)):=by unfold qe dI;simp only;rw[ag (by simpa using h)]
theorem div_pos{a b:Int}(h:0<b)(h':b<1073741824):sJ (.int a) (.int b)=some (.int (a / b)):=by unfold sJ dI;simp only;rw[ag (by simp[h,h'])]
theorem Bd{a:Int}(h:0<=a)(h':a<2147483647):sm a=true:=by unfold sm;simp only[aB,bE];omega
def uO:D->Option Key
 |.int i=>some (.inl i)
 |.str x=>some (.inr x)
 |_=>none
def yd:List Key->List D->Key->Option D
 |k::ks,d::ds,j=>if k=j then some d else yd ks ds j
 |_,_,_=>none
def IZ(ks:List Key)(ds:List D)(k:Key)(d:D):List D:=ee (λk' d'=>if k'=k then d else d') ks ds
def xw(ks:List Key)(k:Key):Bool:=ks.any λk'=>decide (k'=k)
variable{d:D}{a:Addr}{o:Obj}{kvs:List (Key×V)}{f fk:FE}{pos:Pos}{tg e:Expr}
section
variable{X:Cx}{G:Bg}{H:Hp}
theorem xC{v:V}{k:Key}(h:Rep G H d v)(e:uO d=some k):v=kV k:=by
 cases d<;>first|cases e|skip
 all_goals (unfold Rep at h;exact h)
theorem Be:∀{ks:List Key} {ds:List D} {xs:List V} (j:Key),ny G H ds xs->ks.length=xs.length->match yd ks ds j with
  |some d=>∃v,qS (ks.zip xs) j=some v/\Rep G H d v
  |none=>qS (ks.zip xs) j=none
 |[],ds,xs,j,r,l=>by cases ds<;>rfl
 |k::ks,ds,[],j,r,l=>by cases l
 |k::ks,[],x::xs,j,r,l=>by unfold ny at r;cases r
 |k::ks,d::ds,x::xs,j,r,l=>by
  unfold ny at r;obtain⟨v,q,e,h1,h2⟩:=r;cases e;unfold yd;by_cases hk:k=j
  ·rw[ag hk];exact⟨x,vy (p:=(k,x)) hk,h1⟩
  ·rw[ai hk];have ih:=Be (ks:=ks) (ds:=ds) (xs:=xs) j h2 (by simpa using l);have e1:qS ((k::ks).zip (x::xs)) j=qS (ks.zip xs) j:=vz (p:=(k,x)) hk;rw[e1];exact ih
theorem Ag{k:Key}:∀{ks:List Key} {xs:List V},ks.length=xs.length->((ks.zip xs).any λkv=>decide (kv.1=k))=xw ks k
 |[],xs,_=>by cases xs<;>rfl
 |k'::ks,[],l=>by cases l
 |k'::ks,x::xs,l=>by unfold xw;rw[du,d5,d5,Ag (by simpa using l)];rfl
theorem CZ{k:Key}{v:V}:∀{ks:List Key} {xs:List V},ks.length=xs.length->(ks.zip xs).map (λkv=>if kv.1=k then (kv.1,v)else kv)=ks.zip (ee (λk' x=>if k'=k then v else x) ks xs)
 |[],xs,_=>by cases xs<;>rfl
 |k'::ks,[],l=>by cases l
 |k'::ks,x::xs,l=>by
  rw[du,aF,CZ (by simpa using l),fo,du];congr 1;by_cases hk:k'=k
  ·rw[ag hk,ag hk]
  ·rw[ai hk,ai hk]
theorem Bf{k:Key}{d:D}{v:V}(hd:Rep G H d v):∀{ks:List Key} {ds:List D} {xs:List V},ny G H ds xs->ks.length=xs.length->ny G H (IZ ks ds k d) (ee (λk' x=>if k'=k then v else x) ks xs)
 |[],ds,xs,r,l=>by unfold IZ;cases ds<;>cases xs<;>exact nY
 |k'::ks,ds,[],r,l=>by cases l
 |k'::ks,[],x::xs,r,l=>by unfold ny at r;cases r
 |k'::ks,d'::ds,x::xs,r,l=>by
  unfold ny at r;obtain⟨w,q,e,h1,h2⟩:=r;cases e;unfold IZ;rw[fo,fo];refine n9 ?_ (Bf hd h2 (by simpa using l));by_cases hk:k'=k
  ·rw[ag hk,ag hk];exact hd
  ·rw[ai hk,ai hk];exact h1
theorem _root_.L2.DGet.kf{H:Hp}{k:Key}(e:H a=some (.frz o (.dK kvs))):DGet H a (kV k) (qS kvs k):=.inl ⟨kvs,k,.inr ⟨o,e⟩,rfl,rfl⟩
def wQ:D->D->Option D:=λx y=>match x,uO y with
 |.dic ks ds,some k=>yd ks ds k
 |_,_=>none
theorem I0{a b:Expr}{f':FE}(hu:X.A.units+1<cLine)(ha:PE X a (tF G f))(hb:PE X b (tF G f'))(hs:La b:=by exact λ_ _=>rfl):PE X (.Subscript a b pos) (tF G (c2 wQ f f')):=PE.weak (HN hu ha hb hs) λσ H Q hh=>by
 obtain⟨F,ρ,H0,d,ρ',R,e,k⟩:=hh;obtain⟨x,y,ρ1,e1,e2,e3⟩:=zZ e;refine⟨F,ρ,H0,x,ρ1,R,e1,λv H1 H1' s1 R1 r1=>⟨F,ρ1,H1,y,ρ',R1,e2,λu H2 H2' s2 R2 r2=>?_⟩⟩;have r1':=Rep.mono s2 _ _ r1;cases x with
 |dic ks ds=>
  unfold wQ at e3;cases ek:uO y with
  |none=>simp only[ek]at e3;cases e3
  |some j=>simp only[ek]at e3;unfold Rep at r1';obtain⟨p,ob,xs,rfl,h1,h2,h3⟩:=r1';have lv:=Be (ks:=ks) j h3 h2;rw[e3]at lv;obtain⟨w,w1,w2⟩:=lv;refine⟨p,w,rfl,?_,k w H2 H2' (s1.trans s2) R2 w2⟩;rw[xC r2 ek,<- w1];exact DGet.kf (R2.sub _ _ h1)
 |_=>unfold wQ at e3;cases e3
def zh(i:Nat):FS:=λρ=>some (.nx (ρ.set i (.dk [] [])))
theorem F3{st:Stmt}(h:PS X st (uL BS (r6 i))):PS X st (tFS G (zh i)):=PS.weak h λE σ H hh=>by obtain⟨F,ρ,H0,o,R,e,k,k2⟩:=hh;cases e;intro p hp;have R1:=R.newOwn hp (.dK []);refine k _ _ _ (nE.refl _) (R1.set (s:=.dk [] []) ⟨p,[],rfl,nI,R.h0none hp,R.bNone hp,rfl,nY⟩ λ_ a ea j t _ ej to=>?_);cases ea;exact R.apart hp j t ej to
def q8(i:Nat)(fk fv:FE):FS:=λρ=>match fv ρ with
 |some (d,ρ1)=>match ρ1[i]? with
  |some (.dk _ _)=>match fk ρ1 with
   |some (y,ρ2)=>match uO y with
    |some k=>match ρ2[i]? with
     |some (.dk ks ds)=>if ks.length<1000 then if ds.length=ks.length then some (.nx (ρ2.set i (if xw ks k=true then .dk ks (IZ ks ds k d)else .dk (ks++[k]) (ds++[d]))))else none else none
     |_=>none
    |none=>none
   |none=>none
  |_=>none
 |none=>none
theorem F4{st:Stmt}{fv:FE}(h:PS X st (J0 (rW i) (tF G fk) (tF G fv))):PS X st (tFS G (q8 i fk fv)):=PS.weak h λE σ H hh=>by
 obtain⟨F,ρ,H0,o,R,e,k,k2⟩:=hh;unfold q8 at e;rcases nN (f:=fv) (ρ:=ρ)with e1|⟨d,ρ1,e1⟩<;>simp only[e1]at e
 ·cases e
 split at e
 ·rename_i ks0 ds0 ei;rcases nN (f:=fk) (ρ:=ρ1)with e2|⟨y,ρ2,e2⟩<;>simp only[e2]at e
  ·cases e
  cases ek:uO y with
  |none=>simp only[ek]at e;cases e
  |some j=>
   simp only[ek]at e;split at e
   ·rename_i ks ds ei2;split at e
    ·rename_i hl;split at e
     ·rename_i hl2;cases e;refine⟨F,ρ,H0,d,ρ1,R,e1,λv H1 H1' s1 R1 r1=>?_⟩;obtain⟨a0,xs0,a1,_⟩:=R1.sl i _ ei;refine⟨_,pO a1,F,ρ1,H1,y,ρ2,R1,e2,λu H2 H2' s2 R2 r2=>?_⟩;obtain⟨a,xs,b1,b2,b3,b4,b5,b6⟩:=R2.sl i _ ei2;rw[a1]at b1;cases b1;refine⟨a0,upd H2' a0 (.dK (putK (ks.zip xs) j v)),rfl,?_,?_⟩
      ·rw[xC r2 ek];exact Fb.k b2 (by rw[fJ];exact ie (Nat.min_le_left _ _) (uG (by omega)))
      ·have rv:=Rep.mono s2 _ _ r1;refine k _ _ _ (s1.trans s2) (R2.mut ei2 rfl a1 (λH' hH=>?_) ?_)
       ·by_cases hk:xw ks j=true
        ·rw[ag hk];refine⟨a0,ee (λk' x=>if k'=j then v else x) ks xs,rfl,?_,b3,b4,by rw[hU,b5,fO],Bf rv b6 b5⟩;rw[hH];unfold putK;rw[Ag b5,ag hk,CZ b5]
        ·rw[ai hk];refine⟨a0,xs++[v],rfl,?_,b3,b4,by rw[aw,aw,b5];rfl,o9 b6 (n9 rv nY)⟩;rw[hH];unfold putK;rw[Ag b5,ai hk,kj b5];rfl
       ·split<;>rfl
     ·cases e
    ·cases e
   ·cases e
 ·cases e
def ye:D->Option D
 |.lst ds=>(yT ds).map λbs=>.bl (bs.any id)
 |_=>none
theorem Eu(hc:X.calm=true)(hK:X.K=G.K:=by rfl):pD X (.builtin "any") (λxs H Q=>∃(p:Addr) (bs:List Bool),xs=[.ref p]/\SqL G.K H p (bs.map V.bl)/\Q (.bl (bs.any id)) H):=by
 rw[<-hK];intro pins s σ H xs us Q I r h;obtain⟨p,bs,rfl,hq,q⟩:=h;obtain⟨u,rfl,ru⟩:=vals1 r;cases ru;obtain⟨its,rv,pl,hz⟩:=I.list hq;have hlt:p<s.heap.objs.size:=by obtain⟨o,ho,_⟩:=pl.isList;exact aI ho
 have hl:bs.length=its.length:=by have:=rv.length;rw[af]at this;exact this
 refine call_any_walk (fB pl.isList ⟨s.heap.objs.size,_,_,_,_,_,λi=>(bs[i]?).getD false,rfl,gG (show X.A.in1.handled=none from I.ok.hd hc) _ p (aT hlt) its.toArray,⟨⟨_,bA _ rfl,rfl,rfl⟩,?_⟩,?_,λh' tk hk=>?_⟩)
 ·exact pl.isList.at λo e=>aL _ e
 ·intro i v s' Q' E' hv hQ';have hv':its[i]?=some v:=by simpa using hv
  have hi:i<its.length:=(bj.mp hv').1;have hb:(bs.map V.bl)[i]?=some (.bl (bs[i]'(by omega))):=by simp[show i<bs.length by omega]
  obtain⟨u,hu,ru⟩:=rv.get hb;rw[hv']at hu;cases hu;cases ru;refine cp ?_;have e:(bs[i]?).getD false=bs[i]'(by omega):=by simp[show i<bs.length by omega]
  rw[<-e];exact hQ'
 ·refine⟨.bl (bs.any id),H,?_,?_,q⟩
  ·exact I.kept (t':=tk) λb o e=>hk b o (by simp;exact aT (aI e)) (aL _ e)
  ·show Value.bool _=Value.bool _;congr 1;rw[aS,<- hl];rw[dB];simp only[cv,bH,id];constructor
   ·rintro⟨i,hi,h⟩;exact⟨bs[i],dR hi,by simpa [hi]using h⟩
   ·rintro⟨b,hb,h⟩;obtain⟨i,hi,rfl⟩:=dP.mp hb;exact⟨i,hi,by simpa [hi]using h⟩
theorem LZ:zf G (λxs H Q=>∃(p:Addr) (bs:List Bool),xs=[.ref p]/\SqL G.K H p (bs.map V.bl)/\Q (.bl (bs.any id)) H) ye:=λx z H0 H v Q e s rx k=>by
 cases x with
 |lst ds=>
  unfold ye at e;simp only at e;cases e1:yT ds with
  |none=>rw[e1]at e;cases e
  |some bs=>rw[e1]at e;cases e;unfold Rep at rx;obtain⟨a,xs,rfl,h1,h2⟩:=rx;rw[yb h2 e1]at h1;exact⟨a,bs,rfl,s.seq (SqL.of h1),k _ λ_ _=>qh _⟩
 |_=>cases e
def iS(f:FE):FA:=λρ=>match f ρ with
 |some (.str x,ρ')=>some (x.cps.toList.map λc=>D.str ⟨#[c]⟩,ρ')
 |_=>none
theorem Ja(h:PI X tg e (OB (tF G f))):PI X tg e (tFI G (iS f)):=PI.weak h λσ H R hh=>by
 obtain⟨F,ρ,H0,ds,ρ',R,e,k⟩:=hh;unfold iS at e;split at e
 ·rename_i x ρ1 e1;cases e;refine⟨F,ρ,H0,_,_,R,e1,λv H1 H1' s R' r=>?_⟩;unfold Rep at r;refine⟨x,r,k _ _ _ s R' λi H2 H2' t t'=>⟨λd ed=>?_,λhl=>?_⟩⟩
  ·rw[aZ]at ed;cases ec:x.cps.toList[i]? with
   |none=>rw[ec]at ed;cases ed
   |some c=>
    rw[ec]at ed;cases ed;have ec':x.cps[i]?=some c:=by simpa using ec
    refine⟨(fV.mp ec').1,λz H3 y=>?_⟩;obtain⟨e3,c',hc',rfl⟩:=y;rw[ec']at hc';cases hc';subst e3;exact⟨H2,nE.refl _,t',nE.refl _,λb o e=>.inl e,vA _⟩
  ·show i=x.cps.size;rw[hl,af];simp
 ·cases e
def wR(f g:FE):FE:=λρ=>match f ρ with
 |some (.tup (x::xs),ρ1)=>match g ρ1 with
  |some (.tup ys,ρ2)=>if xs.length+ys.length<=900 then some (.tup (x::xs++ys),ρ2)else none
  |_=>none
 |_=>none
theorem Jb{a b:Expr}{g:FE}(ha:PE X a (tF G f))(hb:PE X b (tF G g))(hK:X.K=G.K:=by rfl):PE X (.BinOp a .Add b pos) (tF G (wR f g)):=PE.weak (EW HI ha hb) λσ H Q hh=>by
 rw[hK];obtain⟨F,ρ,H0,d,ρ',R,e,k⟩:=hh;unfold wR at e;split at e
 ·rename_i x xs ρ1 e1;split at e
  ·rename_i ys ρ2 e2;split at e
   ·rename_i hl;cases e;refine⟨F,ρ,H0,_,ρ1,R,e1,λv H1 H1' s R' r=>⟨F,ρ1,H1,_,_,R',e2,λu H2 H2' s2 R2 r2=>?_⟩⟩;have r':=Rep.mono s2 _ _ r;have r0:=r';unfold Rep at r' r2;obtain⟨a1,xs1,rfl,h1,h2⟩:=r';obtain⟨a2,xs2,rfl,h3,h4⟩:=r2;have l1:=nu h2;have l2:=nu h4;rw[aD]at l1;refine⟨a1,a2,xs1,xs2,rfl,rfl,SqT.mono R2.sub h1,SqT.mono R2.sub h3,(λz=>by rw[z]at l1;cases l1),by rw[<-l1,<- l2];exact qM (by omega),λz=>?_,λ_ p hp=>?_⟩
    ·have ey:ys=[]:=by rw[z]at l2;exact List.length_eq_zero_iff.mp l2
     subst ey;rw[bh]at k;exact k _ _ _ (s.trans s2) R2 r0
    ·exact k _ _ _ ((s.trans s2).trans (nQ (R2.h0none hp) _)) (R2.newIm hp _) (zY (SqT.of nI) (ny.mono (nQ (R2.h0none hp) _) _ _ (o9 h2 h4)))
   ·cases e
  ·cases e
 ·cases e
end
section
variable{X:Cx}{G:Bg}
abbrev FO:=List Sl->Option (Option Int×List Sl)
def tFO(G:Bg)(f:FO):TO:=λσ H Q=>∃F ρ H0 d ρ',nM G F σ ρ H0 H/\f ρ=some (d,ρ')/\∀H0' H',nE H0 H0'->nM G F σ ρ' H0' H'->Q d H'
def oNo:FO:=λρ=>some (none,ρ)
def oAt(f:FE):FO:=λρ=>match f ρ with
 |some (.int i,ρ')=>some (some i,ρ')
 |_=>none
theorem PO.weak{e:Option Expr}{t t':TO}(h:PO X e t)(w:∀σ H Q,t' σ H Q->t σ H Q):PO X e t':=λpins s σ H Q I hq=>h pins s σ H Q I (w _ _ _ hq)
theorem L0:PO X none (tFO G oNo):=PO.weak HG λσ H Q hh=>by obtain⟨F,ρ,H0,d,ρ',R,e,k⟩:=hh;cases e;exact k _ _ (nE.refl _) R
theorem L1(h:PE X e (tF G f)):PO X (some e) (tFO G (oAt f)):=PO.weak (HH h) λσ H Q hh=>by
 obtain⟨F,ρ,H0,d,ρ',R,e,k⟩:=hh;unfold oAt at e;split at e
 ·rename_i i ρ1 e1;cases e;refine⟨F,ρ,H0,_,_,R,e1,λv H1 H1' s R' r=>?_⟩;unfold Rep at r;exact⟨i,r,k _ _ s R'⟩
 ·cases e
def vc(f:FE)(lo hi:FO):FA:=λρ=>match f ρ with
 |some (d,ρ1)=>match d with
  |.lst ds=>match lo ρ1 with
   |some (l,ρ2)=>match hi ρ2 with
    |some (h,ρ3)=>some (cutD ds l h,ρ3)
    |none=>none
   |none=>none
  |.fzl ds=>match lo ρ1 with
   |some (l,ρ2)=>match hi ρ2 with
    |some (h,ρ3)=>some (cutD ds l h,ρ3)
    |none=>none
   |none=>none
  |_=>none
 |none=>none
theorem B4{lo hi:FO}(h:PE X e (tSl (HK G.K) (tF G f) (tFO G lo) (tFO G hi))):PE X e (tFN G (vc f lo hi)):=PE.weak h λσ H Q hh=>by
 obtain⟨F,ρ,H0,ds,ρ',R,e,k⟩:=hh;unfold vc at e;rcases nN (f:=f) (ρ:=ρ)with e1|⟨d,ρ1,e1⟩<;>simp only[e1]at e
 ·cases e
 have gen:∀(xs:List D),(∀{H1:Hp} {v:V},Rep G H1 d v->∃a ys,v=.ref a/\SqL G.K H1 a ys/\ny G H1 xs ys)->(match lo ρ1 with
   |some (l,ρ2)=>match hi ρ2 with
    |some (h,ρ3)=>some (cutD xs l h,ρ3)
    |none=>none
   |none=>none)=some (ds,ρ')->tSl (HK G.K) (tF G f) (tFO G lo) (tFO G hi) σ H Q:=λxs rd e=>by
  rcases nN (f:=lo) (ρ:=ρ1)with e2|⟨l,ρ2,e2⟩<;>simp only[e2]at e
  ·cases e
  rcases nN (f:=hi) (ρ:=ρ2)with e3|⟨u,ρ3,e3⟩<;>simp only[e3]at e
  ·cases e
  cases e;refine⟨F,ρ,H0,d,ρ1,R,e1,λv H1 H1' s1 R1 r1=>⟨F,ρ1,H1,l,ρ2,R1,e2,λH2 H2' s2 R2=>⟨F,ρ2,H2,u,_,R2,e3,λH3 H3' s3 R3=>?_⟩⟩⟩;obtain⟨a,ys,rfl,q1,q2⟩:=rd (Rep.mono (s2.trans s3) _ _ r1);exact⟨a,ys,rfl,R3.sub.seq q1,λp hp=>k p _ _ _ (s1.trans (s2.trans s3)) (R3.newOwn hp _) nI (R3.h0none hp) (R3.bNone hp) (R3.apart hp) (FU q2)⟩
 cases d with
 |lst xs=>exact gen xs (λr=>by unfold Rep at r;obtain⟨a,ys,rfl,q1,q2⟩:=r;exact⟨a,ys,rfl,SqL.of q1,q2⟩) e
 |fzl xs=>exact gen xs (λr=>by unfold Rep at r;exact r) e
 |_=>cases e
end
section
variable{X:Cx}{G:Bg}
def yf:FE:=λ_=>none
theorem F5:PE X e (tF G yf):=λpins s σ H Q I h=>by obtain⟨F,ρ,H0,d,ρ',R,e,_⟩:=h;cases e
def B5(G:Bg)(c:Nat)(t:Ty->Option Bool):Prop:=(∀y b,t y=some b->cj G.K (y.val G) (.ref (G.ca c))=some b)/\∀j b,t (.c j)=some b->Eo G.K (G.ca j)
theorem B6{c:Nat}{t:Ty->Option Bool}(h:B5 G c t)(hK:X.K=G.K:=by rfl):pD X (.builtin "isinstance") (λxs H Q=>∃d x b,xs=[x,(Ty.c c).v G]/\Rep G H d x/\t (tyD d)=some b/\Q (.bl b) H):=
 zg (X:=X) (.c c) (by rw[hK];exact h.1) (by rw[hK];exact h.2) hK
end
def ddp(acc:List Key)(k:Key):List Key:=if acc.any (λz=>decide (z=k))then acc else acc++[k]
def rL(ks:List Key):List Key:=ks.foldl ddp []
theorem Jc(acc:List Key)(k j:Key):(ddp acc k).any (λz=>decide (z=j))=(acc.any (λz=>decide (z=j))||decide (j=k)):=by
 unfold ddp;by_cases h:acc.any (λz=>decide (z=k))=true
 ·rw[ag h];by_cases e:j=k
  ·subst e;rw[h];simp
  ·simp[e]
 ·rw[ai h,List.any_append];by_cases e:j=k
  ·subst e;simp
  ·have hb:¬k=j:=λz=>e z.symm;simp[hb,e]
theorem Da(acc:List Key)(k:Key):(ddp acc k).length=if acc.any (λz=>decide (z=k))=true then acc.length else acc.length+1:=by unfold ddp;split<;>simp
theorem zi(ks:List Key)(i:Nat)(h:i<ks.length):rL (ks.take (i+1))=ddp (rL (ks.take i)) ks[i]:=by unfold rL;rw[jW,aP h,ip];rfl
theorem F6(ks:List Key):(rL ks).length<=ks.length:=by
 have gen:∀(l:List Key) (acc:List Key),(l.foldl ddp acc).length<=acc.length+l.length:=by
  intro l
  induction l with
  |nil=>intro acc;simp
  |cons k l ih=>
   intro acc;rw[cy,aD];have h1:=ih (ddp acc k);have h2:(ddp acc k).length<=acc.length+1:=by rw[Da];split<;>omega
   omega
 have:=gen ks [];simpa [rL]using this
theorem set_same{prog:ar}{w:ao}{h:Heap}{S S':Key->Bool}{n n':Nat}(hS:h.SetOf (nT prog w) a S n)(e:∀k,S k=S' k)(en:n=n'):h.SetOf (nT prog w) a S' n':=by obtain rfl:S=S':=funext e;subst en;exact hS
section
variable{prog:ar}{w:ao}{A:av}{R:cR->ae->Prop}{I:Addr}{fp wr:List Addr}{GG:Array eA->Array eA->Prop}{n:Nat}{PP:Nat->aa->Prop}{SS:Nat->ae->Prop}
theorem F7(W:WalksS prog w A.in1 I fp wr GG n PP SS)(S:Addr)(hSf:S∉fp)(ks:List Key)(hn:ks.length=n)
  (hval:∀i v (h:i<ks.length),PP i v->(nT prog w).is ks[i] v=true/\v.scannable=true) (hb:n+1<scanBound):∀(k i:Nat) (s:ae),n - i=k->i<=n->SS i s->
   s.heap.SetOf (nT prog w) S (λj=>(rL (ks.take i)).any (λz=>decide (z=j))) (rL (ks.take i)).length->
   (∀s',Moved (S::wr) GG s s'->s'.heap.SetOf (nT prog w) S (λj=>(rL ks).any (λz=>decide (z=j))) (rL ks).length->R (.ok (.ret .none)) s')->
   bS (model prog w) A (.builtin "set.update.loop" ⟨[.ref S,.ref I],[]⟩) R s:=by
 have hSw:S∉wr:=λz=>hSf (W.sub _ z);have up:∀b∈wr,b∈S::wr:=λb z=>aG _ z;intro k
 induction k with
 |zero=>
  intro i s hk hi hst hS hR;obtain rfl:i=n:=by omega
  refine eI fX ?_;rw[fw dN _];show ah _ A.in1 (pyNext (.ref I)>>=_) _ _ s;refine au (W.done s _ _ hst λs' hm=>?_);show ah _ A.in1 (ret Value.none) _ _ s';rw[fZ (by omega)]at hS;refine aC (hR s' (hm.mono up) ?_);obtain⟨o,es,ep,t,ho,more⟩:=hS;exact⟨o,es,ep,t,hm.heap S _ hSw ho,more⟩
 |succ k ih=>
  intro i s hk hi hst hS hR;have hlt:i<n:=by omega
  have hlk:i<ks.length:=by omega
  refine eI fX ?_;rw[fw dN _];show ah _ A.in1 (pyNext (.ref I)>>=_) _ _ s;refine au (W.item i s _ _ hlt hst λv s' hP hst' hm=>?_);obtain⟨kv,sc⟩:=hval i v hlk hP;have hS':s'.heap.SetOf (nT prog w) S (λj=>(rL (ks.take i)).any (λz=>decide (z=j))) (rL (ks.take i)).length:=by obtain⟨o,es,ep,t,ho,more⟩:=hS;exact⟨o,es,ep,t,hm.heap S _ hSw ho,more⟩
  show ah _ A.in1 (holding [v] (setAdd S v)>>=_) _ _ s';refine au (c7 ?_);unfold setAdd;refine c7 ?_;refine au ((nT prog w).pyHash (k:=ks[i]) kv ?_);have room:(rL (ks.take i)).length+1<scanBound:=by have:=F6 (ks.take i);rw[bf]at this;omega
  refine wpAny_setAddHashed_of (knd:=nT prog w) (s:={ s' with toks:=s'.toks+1 }) kv sc hS' room λh' hsb hS2=>?_;have hSi:h'.SetOf (nT prog w) S (λj=>(rL (ks.take (i+1))).any (λz=>decide (z=j))) (rL (ks.take (i+1))).length:=
   set_same hS2 (λj=>by rw[zi ks i hlk,Jc]) (by rw[zi ks i hlk,Da])
  refine aC ⟨gq dN _,ih (i+1) _ (by omega) hlt (W.frame _ s' _ _ hst' (gz _) λb z o e=>?_) hSi λs'' hm'' hS''=>?_⟩
  ·rw[hsb.2 b (λy:b=S=>hSf (by rw[<-y];exact z))];exact e
  ·refine hR s'' (iX W.gtrans ((hm.mono up).then_heap (gz _) λb o z e=>?_) hm'') hS'';rw[hsb.2 b (λy:b=S=>z (by rw[y];exact aE))];exact e
end
theorem Jd(l:Addr)(us:Array aa)(m:Nat)(b:Addr)(o:Obj)(ws:Array aa)(m2:Nat)(hc:o.cls=.type "tuple")(hd:o.data=.seq ws m2)(z0:¬(!us.isEmpty&&fi (us.size+ws.size))=true)(z1:us.size<=ay)(z2:us.size+ws.size<=ay+1):
  Meets (Builtin.«list.extend» ⟨[.ref l,.ref b],[]⟩) (λ_ R s=>s.heap.get? l=some { cls:=.type "list", data:=.seq us m }/\s.heap.get? b=some o/\R (.ok (.ret Value.none)) { s with heap:=s.heap.update l (eS λx=>x++ws),toks:=s.toks }):=by
 obtain⟨c,dd,data,sl⟩:=o;cases hc;cases hd;refine .of_wp λprog w A R s h=>?_;obtain⟨hp,g,d,tk,os⟩:=s;obtain⟨hl,hb,h⟩:=h;have f2:=AutoSeq1.sub_tuple_tuple;have f3:=AutoSeq1.sub_list_list;have f4:=AutoSeq1.sub_tuple_list;have f5:=AutoSeq1.sub_list_tuple;have z3:(us++ws).size<=ay+1:=Array.size_append (xs:=us) (ys:=ws)▸z2
 wp_walk using (wpAny_updateSeq hl rfl (hz:=z1) (_hz':=z3)),jf hl,jf hb
 exact⟨_,rfl,h⟩
section
variable{X:Cx}{G:Bg}
def Bh(K:aj):V->List V->Hp->VK->Prop:=λx vs H Q=>∃l b xs zs,x=.ref l/\vs=[.ref b]/\H l=some (.lst xs)/\SqT K H b zs/\xs.length+zs.length<=ay/\Q .non (upd H l (.lst (xs++zs)))
theorem B7:MtM X "list.extend" (Bh X.K):=by
 intro pins s σ H x vs v us Q I rx rv h;obtain⟨l,b,xs,zs,rfl,rfl,hH,hB,hz,q⟩:=h;cases rx;obtain⟨u,rfl,ru⟩:=rv.one;cases ru;obtain⟨z,its,n,r,hl,e⟩:=I.lstM hH;obtain⟨its2,r2,⟨o,e2,hc,n2,hd⟩,hz2⟩:=I.tuple hB;have hl2:=r2.length;have hsz:its.toArray.size+its2.toArray.size<=ay:=by rw[aS,aS];omega
 have hlong:¬(!its.toArray.isEmpty&&fi (its.toArray.size+its2.toArray.size))=true:=by rw[AQ hsz,c6];exact bc
 refine i6 f9 ⟨_,e,rfl⟩ jD (jy _ _)
  (Jd l its.toArray n b o its2.toArray n2 hc hd hlong (by rw[aS];omega) (by omega)) ⟨e,e2,?_⟩
 refine⟨.non,_,I.lset (its':=its++its2) hH e (by simp) (r.append r2) ?_,rfl,q⟩;rw[aw];omega
def uf(i:Nat)(f:FE):FE:=λρ=>match oM ρ i with
 |some _=>match f ρ with
  |some (.tup es,ρ1)=>match oM ρ1 i with
   |some ds=>if ds.length+es.length<=1000 then some (.non,putAt ρ1 i (ds++es))else none
   |none=>none
  |_=>none
 |none=>none
theorem B8(h:PE X e (tBM G.K "list" (Bh G.K) (rW i) (xM (tF G f) zK))):PE X e (tF G (uf i f)):=PE.weak h λσ H Q hh=>by
 obtain⟨F,ρ,H0,d,ρ',R,e,k⟩:=hh;unfold uf at e;cases e0:oM ρ i with
 |none=>simp only[e0]at e;cases e
 |some ds0=>
  simp only[e0]at e;rcases nN (f:=f) (ρ:=ρ)with e1|⟨x,ρ1,e1⟩<;>simp only[e1]at e
  ·cases e
  ·cases x with
   |tup es=>
    cases e2:oM ρ1 i with
    |none=>simp only[e2]at e;cases e
    |some ds=>
     simp only[e2]at e;split at e
     ·rename_i hl;cases e;obtain⟨a,xs,s1,s2,s3,_⟩:=pF R e0;refine⟨.ref a,s1,.inl ⟨rfl,xs,SqL.of s2⟩,F,ρ,H0,_,ρ1,R,e1,λv H1 H1' s R' rs=>?_⟩;unfold Rep at rs;obtain⟨p,ys,rfl,hp,rs⟩:=rs;obtain⟨a',xs',t1,t2,t3,t4⟩:=pF R' e2;rw[s1]at t1;cases t1;refine⟨a,p,xs',ys,rfl,rfl,t2,SqT.mono R'.sub hp,?_,k _ _ _ s (t4 _ _ (o9 t3 rs)) vB⟩;rw[<-nu t3,<- nu rs];exact qM hl
     ·cases e
   |_=>cases e
end
abbrev one(j:Nat)(led pl:Bool):bp:=⟨7,#[j],#[],0,led,0,pl⟩
variable{ks:List Key}
section
variable{prog:ar}{w:ao}{A:av}{E:aa->ae->Prop}{s:ae}
abbrev TK(prog:ar)(w:ao):=IsTupleKey (nT prog w)
theorem cls_val(n:Nat){v:aa}(h:iC v=true):fE n v=pure false:=by
 cases v with
 |ref a=>simp[iC]at h
 |_=>first|rfl|simp[fE]|(unfold fE;rfl)
theorem Dc{Q:Bool->ae->Prop}(hk:TK prog w s.heap ks a)(h:Q false s):ah (model prog w) A (fE 8 (.ref a)) Q E s:=by
 have hT:=hk.typeIs;obtain⟨o,items,n,ho,_,hd,hi⟩:=hk;unfold fE;refine au (wpAny_typeOf hT ?_);show ah _ _ (pure true>>=_) _ _ s;refine au (aC ?_);simp only[Bool.not_true,fA,if_false];refine au (kx ho hd ?_);refine au ?_;show ah _ _ (forIn items _ _) _ _ s;rw[<-jN];refine iw _ (λrest r s'=>r.1=none/\s'=s/\∀v∈rest,iC v=true) _ ?_ ?_ _ _ ⟨rfl,rfl,hi.byValue⟩
 ·rintro v rest r s' ⟨hr,rfl,hall⟩;rw[cls_val _ (hall v aE)];refine au (aC ?_);simp only[fA,if_false];exact aC ⟨rfl,rfl,λu hu'=>hall u (aG _ hu')⟩
 ·rintro⟨r1,r2⟩ s' ⟨hr,rfl,_⟩;simp only at hr;subst hr;exact aC h
end
variable{ep:Nat}
section
variable{prog:ar}{w:ao}{A:av}{E:aa->ae->Prop}{s:ae}
theorem F8{hp:Heap}{S:Addr}{es es':Array (Int×aa)}{t t':bp}(ho:hp.get? S=some o)(hd:o.data=.set es ep t):(hp.update S (i8 es' t')).get? S=some { o with data:=.set es' (ep+1) t' }:=by have:=jt (i8 es' t') ho (by rw[putSet_of es' t' hd];rfl);rw[putSet_of es' t' hd]at this;exact this
end
section
variable{prog:ar}{w:ao}{A:av}{R:cR->ae->Prop}{I:Addr}{fp wr:List Addr}{GG:Array eA->Array eA->Prop}{PP:Nat->aa->Prop}{SS:Nat->ae->Prop}
theorem TK.kept{h h':Heap}(t:TK prog w h ks a)(e:∀o,h.get? a=some o->h'.get? a=some o):TK prog w h' ks a:=by obtain⟨o,its,n,ho,m⟩:=t;exact⟨o,its,n,e o ho,m⟩
def OX(h:Heap)(S:Addr)(n:Nat):Prop:=∃o es ep t,h.get? S=some o/\o.ExactSet/\o.data=.set es ep t/\es.size<scanBound/\t.fits es.size=true/\es.size=n
end
theorem sub_tuple_set:isSubtype (.type "tuple") (.type "set")=pure false:=by rw[ky];kernel_rfl
theorem sub_tuple_frozenset:isSubtype (.type "tuple") (.type "frozenset")=pure false:=by rw[ky];kernel_rfl
variable{ax:Addr}{itO:Obj}
section
variable{prog:ar}{w:ao}{A:av}{E:aa->ae->Prop}{s:ae}{Q:aa->ae->Prop}
abbrev sr(led:Bool):Obj:={ cls:=.type "set", dict:=none,data:=.set #[] 0 (.fresh 0 0 led) }
abbrev inK(ks:List Key):Key->Bool:=λj=>(rL ks).any (λz=>decide (z=j))
structure OY(prog:ar)(w:ao)(h:Heap)(a:Addr)(items:Array aa)(ks:List Key):Prop where
 len:ks.length=items.size
 key:∀i v (hi:i<ks.length),items[i]?=some v->(nT prog w).is ks[i] v=true/\v.scannable=true
 bnd:items.size+1<scanBound
def Je(s:ae)(PS:Heap->Prop)(E:aa->ae->Prop):cR->ae->Prop:=
 wants (λr s2=>r=.none/\∃h2 k2,s2={ s with heap:=h2,toks:=k2 }/\PS h2/\∀b o,b<s.heap.objs.size->s.heap.get? b=some o->h2.get? b=some o) E
theorem Bi{items:Array aa}{led:Bool}{SS:Nat->Heap->Prop}(K:OY prog w s.heap ax items ks)(hlt:ax<s.heap.objs.size)
  (W:Walks prog w A.in1 (s.heap.objs.size+1) [s.heap.objs.size+1,ax] [s.heap.objs.size+1] items.size (λi v=>items[i]?=some v) SS) (st:SS 0 ((s.heap.push (sr led)).push itO)) {R:cR->ae->Prop}
  (hR:∀h2 k2,h2.SetOf (nT prog w) s.heap.objs.size (inK ks) (rL ks).length->(∀b o,b<s.heap.objs.size->s.heap.get? b=some o->h2.get? b=some o)->R (.ok (.ret .none)) { s with heap:=h2,toks:=k2 }) (tk:Nat):
  bS (model prog w) A (.builtin "set.update.loop" ⟨[.ref s.heap.objs.size,.ref (s.heap.objs.size+1)],[]⟩) R { s with heap:=(s.heap.push (sr led)).push itO,toks:=tk }:=by
 have notin:s.heap.objs.size∉[s.heap.objs.size+1,ax]:=by
  intro z;rcases aO.mp z with z|z
  ·exact ak z (aT (dS _))
  ·exact ak (aU.mp z) (iK hlt)
 have e0:((s.heap.push (sr led)).push itO).get? s.heap.objs.size=some (sr led):=aL _ (bA _ rfl);refine F7 W.toS s.heap.objs.size notin ks K.len (λi v hi hv=>K.key i v hi hv) K.bnd (items.size - 0) 0 _ (by omega) (bW _) st ?_ λs2 mv S2=>?_
 ·exact⟨_,#[],0,_,e0,⟨rfl,rfl,rfl⟩,rfl,λe he=>by simp at he,λk=>by simp[rL],by unfold scanBound;decide,by rfl,rfl⟩
 ·obtain⟨h2,g2,d2,k2,o2⟩:=s2;have eg:g2=s.gens:=mv.gens;have ed:d2=s.drawn:=mv.drawn;have eo:o2=s.os:=mv.os;subst eg ed eo;refine hR h2 k2 S2 λb o hb e=>mv.heap b o (λz=>?_) (aL _ (aL _ e));rcases aO.mp z with z|z
  ·exact ak z (aT hb)
  ·exact ak (aU.mp z) (aT (dv hb))
theorem B9(a:aa){Q₁:aa->ae->Prop}(h:Q₁ (.ref s.heap.objs.size) { s with heap:=s.heap.push (sr (!w.params.followText "set-order")) }):
  bS (model prog w) A (.call (.builtin "set.__new__") ⟨[.type "set", a],[]⟩) (wants Q₁ E) s:=by
 refine kl ?_;show ah _ A.in1 (do checkBuiltinCall "set.__new__" ⟨[.type "set", a],[]⟩;again (.builtin "set.__new__" ⟨[.type "set", a],[]⟩)) _ _ s;refine au (wpAny_of_eq (F.newCall_set_1 a) (aC ⟨gq km _,eI F.entry_set_new ?_⟩));rw[fw km _];unfold Builtin.«set.__new__» lD;have hsub:=sub_set_self;obtain⟨hp,g,d,tk,os⟩:=s;dsimp only
 wp_walk
 refine wpAny_askSetting (aC ?_);dsimp only;simp only[newObj];refine au (wpAny_alloc (aC ?_));exact aC h
theorem vK{T:String}{PS:Heap->Prop}(ho:s.heap.get? ax=some o)(hc:o.cls=.type T)
  (u1:isSubtype (.type T) (.type "set")=pure false) (u2:isSubtype (.type T) (.type "frozenset")=pure false) (u3:(Value.type T==Value.type "dict")=false)
  (itr:∀(A:av) (Q:aa->ae->Prop) (E:aa->ae->Prop) (s1:ae),s1.heap.get? ax=some o->Q (.ref s1.heap.objs.size) { s1 with heap:=s1.heap.push itO }->ah (model prog w) A (pyIter (.ref ax)) Q E s1)
  (fil:∀tk (R:cR->ae->Prop),(∀h2 k2,PS h2->(∀b o,b<s.heap.objs.size->s.heap.get? b=some o->h2.get? b=some o)->R (.ok (.ret .none)) { s with heap:=h2,toks:=k2 })->
   bS (model prog w) A.in1.in1 (.builtin "set.update.loop" ⟨[.ref s.heap.objs.size,.ref (s.heap.objs.size+1)],[]⟩) R { s with heap:=(s.heap.push (sr (!w.params.followText "set-order"))).push itO,toks:=tk })
  (h:∀h2 k2,PS h2->(∀b o,b<s.heap.objs.size->s.heap.get? b=some o->h2.get? b=some o)->Q (.ref s.heap.objs.size) { s with heap:=h2,toks:=k2 }):
  ah (model prog w) A (call (.type "set") [.ref ax]) Q E s:=by
 have hlt:ax<s.heap.objs.size:=aI ho;obtain⟨c,tl,hmro⟩:=dF.mro;have made:=dF.made;have subs:=dF.sub;refine gB (kl ?_);show ah _ _ (callAny (.type "set") _) _ _ _;refine aC ⟨Code.quiet_builtin _ (by decide +kernel),eI F.entry_type_call ?_⟩;rw[Around.under_plain (weight_type_call_type "set" [.ref ax] []) rfl];have n1:=dF.notType;have n2:=dF.canCreate;have n3:=F.typeCall_set_1 (.ref ax)
 repeat (any_goals (first|assumption|wp_step))
 let led:Bool:=!w.params.followText "set-order";refine d6 (B9 (.ref ax) (E:=E) (Q₁:=λv s1=>v=.ref s.heap.objs.size/\s1={ s with heap:=s.heap.push (sr led) }) ⟨rfl,rfl⟩) λr s1 hr=>?_;cases r with
 |error e=>exact hr
 |ok fl=>
  cases fl with
  |ret v=>
   obtain⟨rfl,rfl⟩:=hr;have e0:(s.heap.push (sr led)).get? s.heap.objs.size=some (sr led):=bA _ rfl;have ty0:Shared.TypeIs { s with heap:=s.heap.push (sr led) } (.ref s.heap.objs.size) "set" := ⟨_,e0,rfl⟩;have l1:=dF.init.lookup;have l2:=dF.init.bind (.ref s.heap.objs.size)
   repeat (any_goals (first|assumption|wp_step))
   refine d6 (codeAny_call_builtin (R:=Je s PS E) dF.init.plain F.entry_set_init (check_set_init_1 ty0 ?_)) λr2 s2 hr2=>?_
   ·obtain⟨oc,od,oda,osl⟩:=o;cases hc;have e1:(s.heap.push (sr led)).get? ax=some { cls:=.type T,dict:=od,data:=oda,slots:=osl }:=aL _ ho;unfold Builtin.«set.__init__» noKeywords lA;generalize gP:pyIter=PP
    wp_walk
    subst gP;refine itr _ _ _ _ e1 ?_;refine au (wpAny_runValue ?_);have ez:(s.heap.push (sr led)).objs.size=s.heap.objs.size+1:=eK _ _;show bS _ _ (.builtin "set.update.loop" ⟨[.ref s.heap.objs.size,.ref (s.heap.push (sr led)).objs.size],[]⟩) _ _;rw[ez];refine fil _ _ λh2 k2 S2 kk=>?_;show ah _ _ _ _ _ _;refine aC ?_;show ah _ _ (ret Value.none) _ _ _;exact aC ⟨rfl,h2,k2,rfl,S2,kk⟩
   ·cases r2 with
    |error e=>exact hr2
    |ok fl2=>
     cases fl2 with
     |ret r=>
      obtain⟨rfl,h2,k2,rfl,S2,kk⟩:=hr2
      repeat (any_goals (first|assumption|wp_step))
      exact h _ _ S2 kk
     |_=>exact hr2.elim
  |_=>exact hr.elim
end
variable{S:aj->Hp->Addr->Nat->Prop}{ds:List D}
section
variable{X:Cx}{G:Bg}{H:Hp}{pins:List (Addr×Obj)}{σ:St}{s:ae}
theorem F9{P:ar}{w:ao}{k:Key}{v:aa}(h:(nT P w).is k v=true):v.scannable=true:=by rcases oI h with ⟨i,t,_,rfl⟩|⟨x,t,_,rfl⟩<;>rfl
theorem Ga{its:List aa}(r:Vals (ks.map kV) its)(hb:ks.length+1<scanBound):OY X.prog X.w s.heap a its.toArray ks:=by
 have hl:ks.length=its.length:=by have:=r.length;rw[af]at this;exact this
 refine⟨by rw[aS];exact hl,λi v hi hv=>?_,by rw[aS];omega⟩;have e:(ks.map kV)[i]?=some (kV ks[i]):=by rw[aZ,aP hi];rfl
 obtain⟨u,hu,ru⟩:=r.get e;have eu:v=u:=by rw[gZ]at hv;rw[hv]at hu;exact bQ hu
 subst eu;have:=y3 (P:=X.prog) (w:=X.w) ru;exact⟨this,F9 this⟩
theorem OZ(I:Inv X pins σ H s)(h:SqT X.K H a (ks.map kV)):TK X.prog X.w s.heap ks a:=by
 obtain⟨its,r,p,_⟩:=I.tuple h;obtain⟨o,ho,hc,n,hd⟩:=p;refine⟨o,_,n,ho,hc,hd,?_⟩;have gen:∀(ks:List Key) (its:List aa),Vals (ks.map kV) its->PySem.ItemsAre (nT X.prog X.w) ks its:=λks=>by
  induction ks with
  |nil=>intro its r;cases r;exact .nil
  |cons k ks ih=>intro its r;cases r with|cons h1 h2=>exact .cons (y3 h1) (ih _ h2)
 exact gen ks its r
def L6(K:aj)(H:Hp)(a:Addr)(n:Nat):Prop:=∃ks,(SqL K H a (ks.map kV)\/SqT K H a (ks.map kV))/\ks.length+1<scanBound/\n=(rL ks).length
def L7(X:Cx)(S:aj->Hp->Addr->Nat->Prop):Prop:=∀{pins:List (Addr×Obj)} {σ:St} {H:Hp} {s:ae} {A:av} {E:aa->ae->Prop} {Q:aa->ae->Prop} {a:Addr} {n:Nat},Inv X pins σ H s->A.handled=none->A.units+8<cLine->S X.K H a n->
 (∀h2 k2,OX h2 s.heap.objs.size n->(∀b o,b<s.heap.objs.size->s.heap.get? b=some o->h2.get? b=some o)->Q (.ref s.heap.objs.size) { s with heap:=h2,toks:=k2 })->ah (model X.prog X.w) A (call (.type "set") [.ref a]) Q E s
theorem O0:L7 X (L6):=by
 intro pins σ H s A E Q a n I hh hu hq h;have h3:A.in1.in1.in1.handled=none:=by simp[hh]
 have gt:∀{h2:Heap} {ks:List Key},h2.SetOf (nT X.prog X.w) s.heap.objs.size (inK ks) (rL ks).length->OX h2 s.heap.objs.size (rL ks).length:=λS=>by obtain⟨o,es,ep,t,ho,hex,hd,_,_,hz,hf,hn⟩:=S;exact⟨o,es,ep,t,ho,hex,hd,hz,hf,hn⟩
 have it:∀{o:Obj} {led:Bool},o.isFreed=false->((s.heap.push (sr led)).push o).get? (s.heap.objs.size+1)=some o:=λ{o led} z=>by rw[show s.heap.objs.size+1=(s.heap.push (sr led)).objs.size from(eK _ _).symm];exact bA _ z
 obtain⟨ks,hq|hq,hb,rfl⟩:=hq
 ·obtain⟨its,r,p,_⟩:=I.list hq;obtain⟨o,ho,hc,n,hd⟩:=p.isList;have hne:a≠s.heap.objs.size+1:=aT (dv (aI ho));refine vK ho hc kz jA (by decide) (itO:={ cls:=.type "list_iterator", data:=.fields #[.ref a,.int 0 0] })
   (λA Q E s1 e k=>fB ⟨o,e,hc,n,hd⟩ k) (λtk R hR=>Bi (Ga r hb) (aI ho) (gG h3 _ a hne its.toArray) ⟨⟨_,it rfl,rfl,rfl⟩,⟨o,aL _ (aL _ ho),hc,n,hd⟩⟩ (λh2 k2 S=>hR h2 k2 (gt S)) tk) h
 ·obtain⟨its,r,p,_⟩:=I.tuple hq;obtain⟨o,ho,hc,n,hd⟩:=p;have hne:a≠s.heap.objs.size+1:=aT (dv (aI ho));refine vK ho hc sub_tuple_set sub_tuple_frozenset (by decide) (itO:={ cls:=.type "tuple_iterator", data:=.fields #[.ref a,.int 0 0] })
   (λA Q E s1 e k=>ib ⟨o,e,hc,n,hd⟩ k) (λtk R hR=>Bi (Ga r hb) (aI ho) (lp h3 _ a hne its.toArray) ⟨⟨_,it rfl,rfl,rfl⟩,⟨o,aL _ (aL _ ho),hc,n,hd⟩⟩ (λh2 k2 S=>hR h2 k2 (gt S)) tk) h
def Dd(S:aj->Hp->Addr->Nat->Prop)(K:aj)(te:TE):TE:=λσ H Q=>te σ H λx H1=>∃a n,x=.ref a/\S K H1 a n/\Q (.int n) H1
theorem Ew{p1 p2 p3 p4:Pos}(hV:L7 X S)(hu:X.A.units+64<cLine)(hc:X.calm=true)(g1:Gl X "len")(m1:X.mg "len" = none)(g2:Gl X "set")(m2:X.mg "set" = none)(he:PE X e te)
  (z1:aq [Expr.Call (.Name "set" p2) [e] [] p3] X.env=[(false,eval (.Call (.Name "set" p2) [e] [] p3) X.env)]:=by rfl) (z2:aq [e] X.env=[(false,eval e X.env)]:=by rfl):PE X (.Call (.Name "len" p1) [.Call (.Name "set" p2) [e] [] p3] [] p4) (Dd S X.K te):=by
 intro pins s σ H Q I h;refine dq (uZ I g1 m1 kA ?_ (by decide) (by decide));refine callWith_builtin1 ?_ z1 rfl;rw[z1];show ah _ _ (spliced [(false,eval (.Call (.Name "set" p2) [e] [] p3) X.env)]) _ _ s;refine f7 ?_;refine dq (uZ I g2 m2 Pv.boot_set ?_ (by decide) (by decide));refine callWith_type1 (thn (qg he sX z2 p3 pins s σ H (λvs H1=>match vs with
  |[x]=>∃a n,x=.ref a/\S X.K H1 a n/\Q (.int n) H1
  |_=>False) I h) λus s1 ⟨vs,H1,I1,r1,q1⟩=>?_) z2 rfl
 match vs,r1,q1 with
 |[x],r1,q1=>
 obtain⟨a,n,e1,hq,q⟩:=q1;subst e1;obtain⟨u,rfl,ru⟩:=vals1 r1;cases ru;refine hV I1 (I1.ok.hd hc) (by omega) hq λh2 k2 S2 kk=>?_;refine ik ?_;obtain⟨o,es,ep,t,ho,hex,hd,hz,hf,hn⟩:=S2;have I2:Inv X pins σ H1 { s1 with heap:=h2,toks:=k2 }:=I1.kept λb o e=>kk b o (aI e) e;refine call_len_set ho hex hd hf (by unfold scanBound at hz;omega) ⟨.int n,H1,I2.tok _,⟨_,by rw[hn]⟩,q⟩
def uR:List D->Option (List Key)
 |[]=>some []
 |d::ds=>match uO d,uR ds with
  |some k,some ks=>some (k::ks)
  |_,_=>none
theorem zj:∀{ds:List D} {xs:List V} {ks:List Key},ny G H ds xs->uR ds=some ks->xs=ks.map kV
 |[],xs,ks,r,e=>by cases e;unfold ny at r;exact r
 |d::ds,xs,ks,r,e=>by
  unfold uR at e;cases e1:uO d with
  |none=>rw[e1]at e;cases e
  |some k=>
   cases e2:uR ds with
   |none=>rw[e1,e2]at e;cases e
   |some ks'=>rw[e1,e2]at e;cases e;unfold ny at r;obtain⟨v,r',rfl,h1,h2⟩:=r;rw[xC h1 e1,zj h2 e2];rfl
def pf(ds:List D):Option D:=match uR ds with
 |some ks=>if ks.length<=1000 then some (.int (rL ks).length)else none
 |none=>none
def ug(g:List D->Option D):D->Option D
 |.lst ds=>match pf ds with
  |some r=>some r
  |none=>g ds
 |.tup ds=>pf ds
 |.fzl ds=>pf ds
 |_=>none
theorem De{g:List D->Option D}{r:D}(h:pf ds=some r):ug g (.lst ds)=some r:=by show (match pf ds with|some r=>some r|none=>g ds)=some r;rw[h]
theorem Ca{g:List D->Option D}(hK:X.K=G.K)(hO:∀{H a n},L6 X.K H a n->S X.K H a n)
  (hg:∀{ds d H1 H1' a xs},g ds=some d->SqL X.K H1' a xs->ny G H1 ds xs->nE H1 H1'->∃n:Nat,S X.K H1' a n/\d=.int n)
  (h:PE X e (Dd S X.K (tF G f))):PE X e (tF G (c1 (ug g) f)):=PE.weak h λσ H Q hh=>by
 obtain⟨F,ρ,H0,d,ρ',R,e,k⟩:=hh;obtain⟨x,e1,e2⟩:=xA e;have key:∀{ds:List D} {xs:List V} {a:Addr} {H1 H1':Hp},pf ds=some d->ny G H1 ds xs->nE H0 H1->nM G F σ ρ' H1 H1'->(SqL X.K H1' a xs\/SqT X.K H1' a xs)->
   ∃a' n,V.ref a=.ref a'/\S X.K H1' a' n/\Q (.int n) H1':=λ{ds xs a H1 H1'} ed rs s R' hq=>by
  unfold pf at ed;cases ek:uR ds with
  |none=>rw[ek]at ed;cases ed
  |some ks=>
   rw[ek]at ed;simp only at ed;split at ed
   ·rename_i hl;cases ed;rw[zj rs ek]at hq;exact⟨a,_,rfl,hO ⟨ks,hq,by unfold scanBound;omega,rfl⟩,k _ _ _ s R' (o8 _)⟩
   ·cases ed
 refine⟨F,ρ,H0,x,ρ',R,e1,λv H1 H1' s R' r=>?_⟩;cases x with
 |lst ds=>
  unfold Rep at r;obtain⟨a,xs,rfl,h1,h2⟩:=r;have hq:SqL X.K H1' a xs:=SqL.of (R'.sub _ _ h1);replace e2:(match pf ds with|some r=>some r|none=>g ds)=some d:=e2;cases e3:pf ds with
  |some r=>rw[e3]at e2;cases e2;exact key e3 h2 s R' (.inl hq)
  |none=>rw[e3]at e2;obtain⟨n,h3,rfl⟩:=hg e2 hq h2 R'.sub;exact⟨a,n,rfl,h3,k _ _ _ s R' (o8 _)⟩
 |tup ds=>unfold Rep at r;obtain⟨a,xs,rfl,h1,h2⟩:=r;rw[<-hK]at h1;exact key e2 h2 s R' (.inr (SqT.mono R'.sub h1))
 |fzl ds=>unfold Rep at r;obtain⟨a,xs,rfl,h1,h2⟩:=r;rw[<-hK]at h1;exact key e2 h2 s R' (.inl (R'.sub.seq h1))
 |_=>cases e2
end
theorem Dg{P:ar}{w:ao}{k:Key}{v:aa}(h:(nT P w).is k v=true):RelV (kV k) v:=by
 rcases oI h with ⟨i,t,rfl,rfl⟩|⟨x,t,rfl,rfl⟩
 ·exact⟨t,rfl⟩
 ·exact⟨t,rfl⟩
def Itd(a:Addr)(o:Obj)(kvs:List (Key×V)):It:=
 ⟨λi H=>i<kvs.length/\H a=some (.frz o (.dK kvs)),λi H x H'=>H'=H/\∃k z,kvs[i]?=some (k,z)/\x=kV k,λi H=>kvs.length<=i/\H a=some (.frz o (.dK kvs))⟩
section
variable{X:Cx}{pins:List (Addr×Obj)}{σ:St}{H:Hp}{s:ae}
theorem wU{es:Array DictEntry}(I:Inv X pins σ H s)(e:H a=some (.frz o (.dK kvs)))(hd:o.data=.dict es ep):
  (a==cD)=false/\s.heap.get? a=some o/\∃vs,KV kvs vs/\s.heap.DictAt (nT X.prog X.w) a vs ep:=by
 obtain⟨q0,_,y,vs,r,ob,es',ep',q1,q2,q3,q4⟩:=(show oP X.prog X.w H s.heap a (.frz o (.dK kvs)) from I.hok a _ e);rw[q0]at q1;cases q1;rw[hd]at q3;cases q3;exact⟨y,q0,vs,r,o,es,q0,q2,hd,q4⟩
theorem L8{vs:List (Key×aa)}(r:KV kvs vs){k:Key}{x:aa}(e:vs[i]?=some (k,x)):∃z,kvs[i]?=some (k,z):=by
 induction r generalizing i with
 |nil=>cases e
 |@cons p q l l' h _ ih=>
  cases i with
  |zero=>obtain⟨pk,pv⟩:=p;cases e;exact⟨pv,by rw[show pk=k from h.1];rfl⟩
  |succ i=>exact ih e
end
theorem Ex{P:ar}{w:ao}{K:aj}(a it:Addr)(o:Obj)(kvs:List (Key×V)):Turn P w K tg (Itd a o kvs) [it] it (λi h=>∃es ep,o.data=.dict es ep/\h.IsKeyIter it a i kvs.length ep) where
 mem:=by simp
 obj:=λi h st b hb=>by
  have e:b=it:=by simpa using hb
  subst e;obtain⟨es,ep,hd,ob,e,c,d⟩:=st;exact⟨ob,e,λv z=>by rw[d]at z;cases z⟩
 keep:=λi h h' st k=>by obtain⟨es,ep,hd,x⟩:=st;exact⟨es,ep,hd,x.at λo e=>k it (by simp) o e⟩
 item:=by
  intro X hP hw hK hc i pins s σ H E I hf st hg;subst hP hw hK;obtain⟨hi,he⟩:=hg;obtain⟨es,ep,hd,ki⟩:=st;obtain⟨f0,f1,f2,f3,f4,f5⟩:=hf it (by simp);obtain⟨_,_,vs,r,da⟩:=wU I he hd;have hl:kvs.length=vs.length:=r.length;have hne:a≠it:=λz=>by subst z;rw[he]at f0;cases f0
  have W:=Walks.dictKeys (knd:=nT X.prog X.w) (A:=X.A) (I.ok.hd hc) it a hne vs ep;refine W.item i s _ _ (by omega) ⟨by rw[<-hl];exact ki,da⟩ λv h' tk hv st' kk=>?_;obtain⟨k,x,hx,hk⟩:=hv;obtain⟨z,hz⟩:=L8 r hx;have I1:Inv X pins σ H { s with heap:=h',toks:=tk }:=I.turned (λb o hb e=>kk b o (by simpa using hb) e) f0 f1 f3 f4 f5;obtain⟨ki',_⟩:=st';rw[<-hl]at ki';obtain⟨ob,e,c,d⟩:=id ki';exact⟨v,rfl,Cv (s:={ s with heap:=h',toks:=tk }) e c d (by decide) ⟨kV k,H,I1,Dg hk,⟨rfl,k,z,hz,rfl⟩,⟨es,ep,hd,ki'⟩,λb hb=>(hf b hb).1⟩⟩
 done:=by intro X hP hw hK hc i pins s σ H E I hf st hg;subst hP hw hK;obtain⟨hi,he⟩:=hg;obtain⟨es,ep,hd,ki⟩:=st;obtain⟨f0,f1,f2,f3,f4,f5⟩:=hf it (by simp);obtain⟨_,_,vs,r,da⟩:=wU I he hd;have hl:kvs.length=vs.length:=r.length;exact wpAny_pyNext_dict_end (I.ok.hd hc) (by rw[<-hl];exact ki) da (f6 (by rw[<-hl];exact hi)) λh' eb=>⟨rfl,I.turned (t':=s.toks) (λb o hb e=>eb b o hb e) f0 f1 f3 f4 f5⟩
 self:=λ_ _ _ _ _ st h=>by obtain⟨es,ep,hd,ki⟩:=st;exact wpAny_pyIter_keyiter ki h
section
variable{X:Cx}{G:Bg}{tg:Expr}
def O1(tl:TE):TI:=λσ H R=>tl σ H λx H1=>∃a o kvs,x=.ref a/\H1 a=some (.frz o (.dK kvs))/\R (Itd a o kvs) H1
theorem Jf{l:Expr}{tl:TE}(hl:PE X l tl):PI X tg l (O1 tl):=by
 intro pins s σ H R I h;refine thn (hl pins s σ H _ I h) λv s1 zz=>?_;obtain⟨x,H1,I1,r1,q1⟩:=zz;obtain⟨a,o,kvs,e,he,q⟩:=q1;subst e;cases r1;obtain⟨q0,_,y,vs,r,ob,es,ep,e1,e2,e3,e4⟩:=(show oP X.prog X.w H1 s1.heap a (.frz o (.dK kvs)) from I1.hok a _ he);rw[q0]at e1;cases e1;have hl:kvs.length=vs.length:=r.length;refine wpAny_pyIter_dict (knd:=nT X.prog X.w) (kvs:=vs) (ep:=ep) y ⟨o,es,q0,e2,e3,e4⟩ ?_;refine⟨s1.heap.objs.size,[s1.heap.objs.size],_,_,H1,rfl,I1.kept (t':=s1.toks) λb o e=>aL _ e,Ex a _ o kvs,⟨es,ep,e3,⟨_,bA _ rfl,rfl,by rw[hl];rfl⟩⟩,λb hb=>?_,q⟩;have e:b=s1.heap.objs.size:=by simpa using hb
 subst e;exact I1.fpOk (aA _) (I1.hok.fresh (aA _))
def L9:Key->D
 |.inl i=>.int i
 |.inr x=>.str x
theorem Jg(k:Key){H:Hp}:Rep G H (L9 k) (kV k):=by
 cases k with
 |inl i=>exact o8 i
 |inr x=>exact vA x
def iD(f:FE):FA:=λρ=>match f ρ with
 |some (.dic ks ds,ρ1)=>if ks.length=ds.length then some (ks.map L9,ρ1)else none
 |_=>none
theorem Gb{tg:Expr}(h:PI X tg e (O1 (tF G f))):PI X tg e (tFI G (iD f)):=PI.weak h λσ H R hh=>by
 obtain⟨F,ρ,H0,ds,ρ',R,e,k⟩:=hh;unfold iD at e;split at e
 ·rename_i ks ds' ρ1 e1;split at e
  ·rename_i hlen;cases e;refine⟨F,ρ,H0,_,_,R,e1,λv H1 H1' s R' r=>?_⟩;unfold Rep at r;obtain⟨a,o,xs,rfl,r1,r2,r3⟩:=r;have hz:(ks.zip xs).length=ks.length:=by rw[fJ,<- r2,fO]
   refine⟨a,o,_,rfl,R'.sub _ _ r1,k _ _ _ s R' λi H2 H2' t t'=>⟨λd ed=>?_,λhl=>?_⟩⟩
   ·rw[aZ]at ed;cases ek:ks[i]? with
    |none=>rw[ek]at ed;cases ed
    |some j=>
     rw[ek]at ed;cases ed;have hi:i<ks.length:=(bj.mp ek).1;refine⟨⟨by rw[hz];exact hi,t' _ _ (t _ _ r1)⟩,λz H3 y=>?_⟩;obtain⟨e3,k',z',hk',rfl⟩:=y;subst e3;have:k'=j:=by rw[List.getElem?_zip_eq_some]at hk';have:=hk'.1;rw[ek]at this;exact(bQ this).symm
     subst this;exact⟨H2,nE.refl _,t',nE.refl _,λb o e=>.inl e,Jg _⟩
   ·refine⟨by rw[hz,hl,af];exact aA _,t' _ _ (t _ _ r1)⟩
  ·cases e
 ·cases e
end
mutual
def noC(N c:Nat):D->Bool
 |.non=>true
 |.bl _=>true
 |.int _=>true
 |.str _=>true
 |.tup ds=>rZ N c ds
 |.lst ds=>rZ N c ds
 |.fzl ds=>rZ N c ds
 |.obj k _ ds=>decide (k<N)&&decide (k≠c)&&rZ N c ds
 |.dic _ ds=>rZ N c ds
def rZ(N c:Nat):List D->Bool
 |[]=>true
 |d::ds=>noC N c d&&rZ N c ds
end
def without(H:Hp)(a:Addr):Hp:=λb=>if b=a then none else H b
theorem yg{H:Hp}{b:Addr}(h:b≠a):without H a b=H b:=by unfold without;rw[ai h]
theorem vL{H:Hp}{b:Addr}{o:HO}(h:without H a b=some o):b≠a/\H b=some o:=by
 unfold without at h;by_cases hb:b=a
 ·rw[ag hb]at h;cases h
 ·rw[ai hb]at h;exact⟨hb,h⟩
theorem ql{H:Hp}{b:Addr}{u v:HO}(ha:H a=some u)(hb:H b=some v)(d:u≠v):without H a b=some v:=by rw[yg (λz=>by subst z;rw[ha]at hb;exact d (bQ hb))];exact hb
variable{p:Addr}{xs:List V}
section
variable{G:Bg}{H:Hp}{a dx:Addr}{fs:List (Str×V)}{N c:Nat}
theorem Bj(ha:H a=some (.ins (G.ca c) dx fs))(h:SqT G.K H p xs):SqT G.K (without H a) p xs:=by
 rcases h with (h|⟨o,h⟩)|h
 ·exact .inl (.inl (ql ha h (λz=>nomatch z)))
 ·exact .inl (.inr ⟨o,ql ha h (λz=>nomatch z)⟩)
 ·exact .inr h
theorem Bk(ha:H a=some (.ins (G.ca c) dx fs))(h:SqL G.K H p xs):SqL G.K (without H a) p xs:=by
 rcases h with (h|⟨o,h⟩)|h
 ·exact .inl (.inl (ql ha h (λz=>nomatch z)))
 ·exact .inl (.inr ⟨o,ql ha h (λz=>nomatch z)⟩)
 ·exact .inr h
mutual
theorem wV(inj:∀j k,j<N->k<N->G.ca j=G.ca k->j=k)(hc:c<N)(ha:H a=some (.ins (G.ca c) dx fs)):∀(d:D) (v:V),noC N c d=true->Rep G H d v->Rep G (without H a) d v
 |.non,v,_,h=>by unfold Rep at h ⊢;exact h
 |.bl _,v,_,h=>by unfold Rep at h ⊢;exact h
 |.int _,v,_,h=>by unfold Rep at h ⊢;exact h
 |.str _,v,_,h=>by unfold Rep at h ⊢;exact h
 |.tup ds,v,n,h=>by unfold noC at n;unfold Rep at h ⊢;obtain⟨p,xs,e,h1,h2⟩:=h;exact⟨p,xs,e,Bj ha h1,p8 inj hc ha ds xs n h2⟩
 |.lst ds,v,n,h=>by unfold noC at n;unfold Rep at h ⊢;obtain⟨p,xs,e,h1,h2⟩:=h;exact⟨p,xs,e,ql ha h1 (λz=>nomatch z),p8 inj hc ha ds xs n h2⟩
 |.fzl ds,v,n,h=>by unfold noC at n;unfold Rep at h ⊢;obtain⟨p,xs,e,h1,h2⟩:=h;exact⟨p,xs,e,Bk ha h1,p8 inj hc ha ds xs n h2⟩
 |.obj k ns ds,v,n,h=>by unfold noC at n;simp only[aB,bE]at n;unfold Rep at h ⊢;obtain⟨p,dx',xs,e,h1,h2,h3⟩:=h;refine⟨p,dx',xs,e,ql ha h1 (λz=>?_),h2,p8 inj hc ha ds xs n.2 h3⟩;injection z with z1;exact n.1.2 (inj k c n.1.1 hc z1.symm)
 |.dic ks ds,v,n,h=>by unfold noC at n;unfold Rep at h ⊢;obtain⟨p,o,xs,e,h1,h2,h3⟩:=h;exact⟨p,o,xs,e,ql ha h1 (λz=>nomatch z),h2,p8 inj hc ha ds xs n h3⟩
theorem p8(inj:∀j k,j<N->k<N->G.ca j=G.ca k->j=k)(hc:c<N)(ha:H a=some (.ins (G.ca c) dx fs)):∀(ds:List D) (xs:List V),rZ N c ds=true->ny G H ds xs->ny G (without H a) ds xs
 |[],xs,_,h=>by unfold ny at h ⊢;exact h
 |d::ds,xs,n,h=>by unfold rZ at n;simp only[aB]at n;unfold ny at h ⊢;obtain⟨v,r,e,h1,h2⟩:=h;exact⟨v,r,e,wV inj hc ha d v n.1 h1,p8 inj hc ha ds r n.2 h2⟩
end
end
def tI:Sl->Sl
 |.im d=>.im d
 |_=>.un
def uS(N:Nat)(f:FE):FE:=λρ=>match ρ with
 |.ob c ns ds::r=>match f (.im (.obj c ns ds)::r.map tI)with
  |some (d,_)=>if (decide (c<N)&&noC N c d)=true then some (d,ρ)else none
  |none=>none
 |_=>none
section
variable{X:Cx}{G:Bg}
theorem Cb{s:Sl}:(tI s).own=false:=by cases s<;>rfl
theorem Jh{N:Nat}(inj:∀j k,j<N->k<N->G.ca j=G.ca k->j=k)(h:PE X e (tF G f)):PE X e (tF G (uS N f)):=PE.weak h λσ H Q hh=>by
 obtain⟨F,ρ,H0,d,ρ',R,e,k⟩:=hh;unfold uS at e;split at e
 ·rename_i c ns ds r;rcases nN (f:=f) (ρ:=.im (.obj c ns ds)::r.map tI)with e1|⟨x,ρ1,e1⟩<;>simp only[e1]at e
  ·cases e
  split at e
  ·rename_i hn;cases e;simp only[aB,bE]at hn;obtain⟨a,dx,xs,h1,h2,h3,h4,h5,h6⟩:=R.sl 0 _ rfl;have RL:nM G ⟨upd H0 a (.ins (G.ca c) dx (ns.zip xs)),H,[]⟩ σ (.im (.obj c ns ds)::r.map tI) (upd H0 a (.ins (G.ca c) dx (ns.zip xs))) H:={
    sub:=λb o q=>by
     by_cases hb:b=a
     ·subst hb;rw[nI]at q;cases q;exact h2
     ·rw[nH hb]at q;exact R.sub _ _ q
    g0:=nE.refl _
    keep:=λb o q _=>q
    fr:=λb o q=>.inl q
    am:=λb q=>by cases q
    len:=by have:=R.len;simpa using this
    sl:=λi s q=>by
     cases i with
     |zero=>cases q;exact⟨.ref a,h1,by unfold Rep;exact⟨a,dx,xs,rfl,nI,h5,ny.mono (nQ h3 _) _ _ h6⟩⟩
     |succ i=>
      have q':(r.map tI)[i]?=some s:=q;rw[aZ]at q';cases q1:r[i]? with
      |none=>rw[q1]at q';cases q'
      |some t=>
       rw[q1]at q';cases q';have ok:=R.sl (i+1) t q1;cases t with
       |im d=>obtain⟨v,g1,g2⟩:=ok;exact⟨v,g1,Rep.mono (nQ h3 _) _ _ g2⟩
       |_=>trivial
    ap:=λi j s t b _ qi _ so=>by
     cases i with
     |zero=>cases qi;cases so
     |succ i=>
      have q':(r.map tI)[i]?=some s:=qi;rw[aZ]at q';cases q1:r[i]? with
      |none=>rw[q1]at q';cases q'
      |some t=>rw[q1]at q';cases q';rw[Cb]at so;cases so }
   refine⟨_,_,_,d,ρ1,RL,e1,λv H1 H1' s R' rd=>?_⟩;have ha:H1 a=some (.ins (G.ca c) dx (ns.zip xs)):=s _ _ nI;have s0:nE H0 (without H1 a):=λb o q=>by
    have hb:b≠a:=λz=>by subst z;rw[h3]at q;cases q
    rw[yg hb];exact s b o (by rw[nH hb];exact q)
   refine k v (without H1 a) H1' s0 ?_ (wV inj hn.1 ha d v hn.2 rd);refine R.grow (λb o q=>R'.keep b o q (by simp)) s0 (λb o q=>R'.sub _ _ (vL q).2) λb o q=>?_;obtain⟨hb,q⟩:=vL q;rcases R'.fr b o q with z|z
   ·have z':upd H0 a (.ins (G.ca c) dx (ns.zip xs)) b=some o:=z;rw[nH hb]at z';exact .inl z'
   ·exact .inr z
  ·cases e
 ·cases e
end
section
variable{X:Cx}{pins:List (Addr×Obj)}{σ:St}{H:Hp}{s:ae}{a:Addr}{A:av}{E:aa->ae->Prop}
theorem Ma{k:Key}{z:V}{u r:aa}{Q:aa->ae->Prop}(I:Inv X pins σ H s)(e:H a=some (.dK kvs))(ry:RelV (kV k) u)(rz:RelV z r)(hl:kvs.length<ay)
  (h1:∀v w s',qS kvs k=some v->Inv X pins σ H s'->RelV v w->Q w s') (h2:∀s',qS kvs k=none->Inv X pins σ (upd H a (.dK (putK kvs k z))) s'->Q r s'):
  ah (model X.prog X.w) A (call (.builtin "dict.setdefault") [.ref a,u,r]) Q E s:=by
 obtain⟨y,hd,vs,rel,dd⟩:=JZ I.hok e;have hz:vs.length<=ay:=by rw[<-rel.length];exact y
 have hp:(putK kvs k z).length<=ay:=by have:=ub kvs k z;omega
 have rv:=rel.val k;refine call_meetsIn jq dd.typeIs F.entry_dict_setdefault (F.args_dict_setdefault_3 _ _ _) (kt_meets_setdefault (nT X.prog X.w) a (y3 ry) hd r) ⟨vs,dd,hz,λw hw=>?_,λhn h' dd' hs=>?_⟩
 ·rw[hw]at rv;cases ev:qS kvs k with
  |none=>rw[ev]at rv;exact rv.elim
  |some v=>rw[ev]at rv;exact h1 v w _ ev (I.tok _) rv
 ·rw[hn]at rv;cases ev:qS kvs k with
  |some v=>rw[ev]at rv;exact rv.elim
  |none=>have he:∃q,h'.get? a=some q:=let ⟨q,_,_,hq,_⟩:=dd';⟨q,hq⟩;exact h2 _ ev (zU I (by rw[e];exact True.intro) hs he (Fc hp hd (rel.put k rz) dd'))
def Gc(td ty tx:TE):TE:=λσ H Q=>td σ H λx H1=>∃a,x=.ref a/\IsD H1 a/\ty σ H1 λy H2=>tx σ H2 λz H3=>∃kvs k,H3 a=some (.dK kvs)/\y=kV k/\kvs.length<ay/\
 (∀v,qS kvs k=some v->Q v H3)/\(qS kvs k=none->Q z (upd H3 a (.dK (putK kvs k z))))
theorem Gd{o f:Expr}{apos cpos:Pos}{td ty tx:TE}(ho:PE X o td)(he:PE X e ty)(hf:PE X f tx)(m:M2 X o "setdefault" apos e f cpos):PE X (.Call (.Attribute o "setdefault" apos) [e,f] [] cpos) (Gc td ty tx):=by
 intro pins s σ H Q I h;refine wpAny_Call_method m.base m.few m.line F.plainAttrs_dict jq F.type_dict_setdefault (thn (ho pins s σ H _ I h) λu s1 zz=>?_);obtain⟨x,H1,I1,rx,a,ex,d,q1⟩:=zz;subst ex;obtain rfl:u=Value.ref a:=rx;obtain⟨t1,t2,_⟩:=Lb I1 d;refine⟨t1,t2,?_⟩;rw[m.trees];refine jm rfl (hG (f7 (thn (he pins s1 σ H1 _ I1 q1) λiv s2 ⟨y,H2,I2,ry,q2⟩=>
  f7 (thn (hf pins s2 σ H2 _ I2 q2) λfv s3 ⟨z,H3,I3,rz,kvs,k,e3,ey,hl,g1,g2⟩=>ik ?_))))
 subst ey;exact Ma I3 e3 ry rz hl (λv w s' ev I' rw'=>⟨v,H3,I',rw',g1 v ev⟩) λs' ev I'=>⟨z,_,I',rz,g2 ev⟩
end
def tJ(ks:List Key)(dss:List (List D))(k:Key)(d:D):List Key×List (List D):=
 if xw ks k=true then (ks,ee (λk' ds=>if k'=k then ds++[d]else ds) ks dss)else (ks++[k],dss++[[d]])
theorem vM{k:Key}:xw ks k=true ↔ k∈ks:=by unfold xw;rw[cv];exact⟨λ⟨x,h1,h2⟩=>bK h2▸h1,λh=>⟨k,h,aH rfl⟩⟩
variable{vs:List V}
theorem Ge{k:Key}{v:V}:ks.length=vs.length->qS (ks.zip vs) k=some v->∃j:Nat,ks[j]?=some k/\vs[j]?=some v:=by
 induction ks generalizing vs with
 |nil=>intro _ h;cases h
 |cons k0 ks ih=>
  intro hl h;cases vs with
  |nil=>cases hl
  |cons v0 vs=>
   unfold qS at h;rw[du,dD]at h;by_cases e:k0=k
   ·subst e;simp only[decide_true]at h;cases h;exact⟨0,rfl,rfl⟩
   ·simp only[e,decide_false]at h;obtain⟨j,h1,h2⟩:=ih (by simpa using hl) h;exact⟨j+1,h1,h2⟩
theorem Gf{k:Key}:ks.length=vs.length->qS (ks.zip vs) k=none->k∉ks:=by
 induction ks generalizing vs with
 |nil=>intro _ _ h;cases h
 |cons k0 ks ih=>
  intro hl h hm;cases vs with
  |nil=>cases hl
  |cons v0 vs=>
   unfold qS at h;rw[du,dD]at h;by_cases e:k0=k
   ·subst e;simp only[decide_true]at h;cases h
   ·simp only[e,decide_false]at h;rcases aO.mp hm with z|z
    ·exact e z.symm
    ·exact ih (by simpa using hl) h z
structure Grp(G:Bg)(F:Fr)(H0 H:Hp)(a:Addr)(ks:List Key)(dss:List (List D))(bs:List Addr):Prop where
 at_:H a=some (.dK (ks.zip (bs.map V.ref)))
 n0:H0 a=none
 nB:F.B a=none
 len:ks.length=bs.length
 len':bs.length=dss.length
 nd:bs.Nodup
 kd:ks.Nodup
 each:∀(i:Nat) (b:Addr) (ds:List D),bs[i]?=some b->dss[i]?=some ds->∃xs,H b=some (.lst xs)/\H0 b=none/\F.B b=none/\ny G H0 ds xs
variable{j:Nat}
section
variable{G:Bg}{F:Fr}{σ:St}{ρ:List Sl}{H0 H H0' H':Hp}{a:Addr}{ks:List Key}{dss:List (List D)}{bs:List Addr}
theorem Grp.grow(g:Grp G F H0 H a ks dss bs)(hs:nE H H')(h0:nE H0 H0')(hf:∀b o,H0' b=some o->H0 b=some o\/H b=none):Grp G F H0' H' a ks dss bs where
 at_:=hs _ _ g.at_
 n0:=by
  cases q:H0' a with
  |none=>rfl
  |some o=>
   rcases hf a o q with z|z
   ·rw[g.n0]at z;cases z
   ·rw[g.at_]at z;cases z
 nB:=g.nB
 len:=g.len
 len':=g.len'
 nd:=g.nd
 kd:=g.kd
 each:=λi b ds e1 e2=>by
  obtain⟨xs,q1,q2,q3,q4⟩:=g.each i b ds e1 e2;refine⟨xs,hs _ _ q1,?_,q3,ny.mono h0 _ _ q4⟩;cases q:H0' b with
  |none=>rfl
  |some o=>
   rcases hf b o q with z|z
   ·rw[q2]at z;cases z
   ·rw[q1]at z;cases z
theorem nM.still(R:nM G F σ ρ H0 H)(no:∀s∈ρ,s.own=false):nM G ⟨H0,H,[]⟩ σ ρ H0 H where
 sub:=R.sub
 g0:=nE.refl _
 keep:=λb o e _=>e
 fr:=λb o e=>.inl e
 am:=λa h=>by cases h
 len:=R.len
 sl:=λi s e=>by
  have ok:=R.sl i s e;have n:=no s (bz e);cases s with
  |un=>trivial
  |im d=>exact ok
  |_=>cases n
 ap:=λi j s t b _ e _ so=>by rw[no s (bz e)]at so;cases so
theorem nM.touch(R:nM G F σ ρ H0 H)(no:∀s∈ρ,s.own=false)(hk:∀b o,H b=some o->(H0 b≠none\/F.B b≠none)->H' b=some o)(ha:∀b o,H b=some o->∃o',H' b=some o'):nM G F σ ρ H0 H' where
 sub:=λb o e=>hk b o (R.sub _ _ e) (.inl (by rw[e];exact λz=>nomatch z))
 g0:=R.g0
 keep:=λb o e n=>hk b o (R.keep b o e n) (.inr (by rw[e];exact λz=>nomatch z))
 fr:=R.fr
 am:=λb hb=>by obtain⟨o,e⟩:=R.am b hb;exact ha b o e
 len:=R.len
 sl:=λi s e=>by
  have ok:=R.sl i s e;have n:=no s (bz e);cases s with
  |un=>trivial
  |im d=>exact ok
  |_=>cases n
 ap:=λi j s t b _ e _ so=>by rw[no s (bz e)]at so;cases so
theorem Mb{bs:List Addr}(h:bs.Nodup){b:Addr}(e1:bs[i]?=some b)(e2:bs[j]?=some b):i=j:=by obtain⟨h1,q1⟩:=bj.mp e1;obtain⟨h2,q2⟩:=bj.mp e2;exact(ir h).mp (q1.trans q2.symm)
theorem Mc{ks:List Key}(h:ks.Nodup){b:Key}(e1:ks[i]?=some b)(e2:ks[j]?=some b):i=j:=by obtain⟨h1,q1⟩:=bj.mp e1;obtain⟨h2,q2⟩:=bj.mp e2;exact(ir h).mp (q1.trans q2.symm)
theorem Grp.more(g:Grp G F H0 H a ks dss bs){k:Key}{b:Addr}{v:V}(ek:ks[j]?=some k)(eb:bs[j]?=some b)(hx:H b=some (.lst xs))(rd:Rep G H0 d v):
  Grp G F H0 (upd H b (.lst (xs++[v]))) a (tJ ks dss k d).1 (tJ ks dss k d).2 bs:=by
 have hm:xw ks k=true:=vM.mpr (bz ek);unfold tJ;rw[ag hm];have ne:a≠b:=λz=>by subst z;rw[g.at_]at hx;cases hx
 refine⟨by rw[nH ne];exact g.at_,g.n0,g.nB,g.len,?_,g.nd,g.kd,λi c ds e1 e2=>?_⟩
 ·rw[hU,<- g.len',<- g.len,fO,g.len]
 ·rw[List.getElem?_zipWith]at e2;cases q1:ks[i]? with
  |none=>rw[q1]at e2;cases e2
  |some k'=>
   cases q2:dss[i]? with
   |none=>rw[q1,q2]at e2;cases e2
   |some ds'=>
    rw[q1,q2]at e2;cases e2;obtain⟨ys,w1,w2,w3,w4⟩:=g.each i c ds' e1 q2;by_cases hk:k'=k
    ·subst hk;have ij:=Mc g.kd q1 ek;subst ij;rw[e1]at eb;cases eb;rw[w1]at hx;cases hx;rw[ag rfl];exact⟨_,nI,w2,w3,o9 w4 (n9 rd nY)⟩
    ·rw[ai hk];have nc:c≠b:=λz=>by subst z;have ij:=Mb g.nd e1 eb;subst ij;rw[q1]at ek;cases ek;exact hk rfl
     exact⟨ys,by rw[nH nc];exact w1,w2,w3,w4⟩
theorem Grp.fresh(g:Grp G F H0 H a ks dss bs){k:Key}{v:V}(hk:k∉ks)(hp:H p=none)(h0:H0 p=none)(hB:F.B p=none)(rd:Rep G H0 d v):
  Grp G F H0 (upd (upd (upd H p (.lst [])) a (.dK ((ks++[k]).zip ((bs++[p]).map V.ref)))) p (.lst [v])) a (tJ ks dss k d).1 (tJ ks dss k d).2 (bs++[p]):=by
 have hm:¬xw ks k=true:=λz=>hk (vM.mp z);unfold tJ;rw[ai hm];have ne:a≠p:=λz=>by subst z;rw[g.at_]at hp;cases hp
 have np:p∉bs:=λz=>by
  obtain⟨i,hi,e⟩:=hX z;have e1:bs[i]?=some p:=by rw[aP hi,e]
  obtain⟨ds,e2⟩:∃ds,dss[i]?=some ds:=⟨dss[i]'(by rw[<-g.len'];exact hi),aP _⟩;obtain⟨ys,w1,_⟩:=g.each i p ds e1 e2;rw[hp]at w1;cases w1
 refine⟨by rw[nH ne,nI],g.n0,g.nB,by simp[g.len],by simp[g.len'],?_,?_,λi c ds e1 e2=>?_⟩
 ·rw[bG];refine⟨g.nd,by simp,λx hx y hy=>?_⟩;rw[aU]at hy;subst hy;exact λz=>np (z▸hx)
 ·rw[bG];refine⟨g.kd,by simp,λx hx y hy=>?_⟩;rw[aU]at hy;subst hy;exact λz=>hk (z▸hx)
 ·by_cases hi:i<bs.length
  ·rw[ck hi]at e1;rw[ck (by rw[<-g.len'];exact hi)]at e2;obtain⟨ys,w1,w2,w3,w4⟩:=g.each i c ds e1 e2;have nc:c≠p:=λz=>np (z▸bz e1);have na:c≠a:=λz=>by subst z;rw[g.at_]at w1;cases w1
   exact⟨ys,by rw[nH nc,nH na,nH nc];exact w1,w2,w3,w4⟩
  ·have hi':i=bs.length:=by have:i<(bs++[p]).length:=(bj.mp e1).1;rw[aw,br]at this;omega
   subst hi';rw[cH (aA _),fP]at e1;rw[g.len',cH (aA _),fP]at e2;cases e1;cases e2;exact⟨[v],nI,h0,hB,n9 rd nY⟩
def Bl(G:Bg)(fk:FE):TS:=ER (tBM G.K "list" zT (Gc (rW 1) (tF G fk) (Os zK)) (xM (rW 2) zK))
theorem Gg{D0:Ends}{x:D}{k:Key}{vr:V}(R:nM G F σ ρ H0 H)(no:∀s∈ρ,s.own=false)(h1:σ[1]?=some (some (.ref a)))(h2:σ[2]?=some (some vr))(rd:Rep G H0 d vr)
  (g:Grp G F H0 H a ks dss bs) (hk:fk ρ=some (x,ρ)) (ek:uO x=some k) (l1:ks.length<1000) (l2:∀ds∈dss,ds.length<1000)
  (kont:∀Hi Hj bs',nE H0 Hi->nM G F σ ρ Hi Hj->Grp G F Hi Hj a (tJ ks dss k d).1 (tJ ks dss k d).2 bs'->D0.nx σ Hj):Bl G fk D0 σ H:=by
 refine⟨.ref a,h1,a,rfl,.inl ⟨_,.inl g.at_⟩,_,_,_,x,ρ,nM.still R no,hk,λv H1 H1' s R1 r=>?_⟩;have hs:nE H H1':=λb o e=>R1.keep b o e (by simp);have hf:∀b o,H1 b=some o->H0 b=some o\/H b=none:=R1.fr;have R2:nM G F σ ρ H1 H1':=R.grow hs s R1.sub hf;have g2:Grp G F H1 H1' a ks dss bs:=g.grow hs s hf;have rd2:=Rep.mono s _ _ rd;refine⟨bW _,λp hp=>?_⟩;have np:a≠p:=λz=>by subst z;rw[g2.at_]at hp;cases hp
 have R3:nM G F σ ρ H1 (upd H1' p (.lst [])):=R2.newOwn hp _;have g3:Grp G F H1 (upd H1' p (.lst [])) a ks dss bs:=g2.grow (nQ hp _) (nE.refl _) λb o e=>.inl e;have lz:(ks.zip (bs.map V.ref)).length<ay:=by rw[fJ,af,<- g.len,fO,cz];omega
 refine⟨_,k,g3.at_,xC r ek,lz,λw ev=>?_,λev=>?_⟩
 ·obtain⟨j,e1,e2⟩:=Ge (by rw[af];exact g.len) ev;rw[aZ]at e2;cases eb:bs[j]? with
  |none=>rw[eb]at e2;cases e2
  |some b=>
   rw[eb]at e2;cases e2;obtain⟨ds,ed⟩:∃ds,dss[j]?=some ds:=⟨dss[j]'(by rw[<-g.len'];exact(bj.mp eb).1),aP _⟩;obtain⟨xs,w1,w2,w3,w4⟩:=g3.each j b ds eb ed;have lx:xs.length<ay:=by rw[<-nu w4,cz];have:=l2 ds (bz ed);omega
   refine⟨.inl ⟨rfl,xs,SqL.of w1⟩,vr,h2,b,xs,vr,rfl,rfl,w1,lx,?_⟩;refine kont H1 _ bs s (nM.touch R3 no (λc o e z=>?_) λc o e=>?_) (g3.more e1 eb w1 rd2)
   ·have nc:c≠b:=λy=>by
     subst y;rcases z with z|z
     ·exact z w2
     ·exact z w3
    rw[nH nc];exact e
   ·by_cases y:c=b
    ·subst y;exact⟨_,nI⟩
    ·rw[nH y];exact⟨o,e⟩
 ·have nk:=Gf (by rw[af];exact g.len) ev;have h0p:H1 p=none:=R2.h0none hp;have hBp:F.B p=none:=R2.bNone hp;have ez:putK (ks.zip (bs.map V.ref)) k (.ref p)=(ks++[k]).zip ((bs++[p]).map V.ref):=by rw[E9 _ ev,bg,kj (by rw[af];exact g.len)];rfl
  rw[ez];have q0:upd (upd H1' p (.lst [])) a (.dK ((ks++[k]).zip ((bs++[p]).map V.ref))) p=some (.lst []):=by rw[nH (λz=>np z.symm),nI]
  refine⟨.inl ⟨rfl,[],SqL.of q0⟩,vr,h2,p,[],vr,rfl,rfl,q0,by rw[cz];decide,?_⟩;refine kont H1 _ (bs++[p]) s (nM.touch R3 no (λc o e z=>?_) λc o e=>?_) (g2.fresh nk hp h0p hBp rd2)
  ·have n1:c≠p:=λy=>by
    subst y;rcases z with z|z
    ·exact z h0p
    ·exact z hBp
   have n2:c≠a:=λy=>by
    subst y;rcases z with z|z
    ·exact z g2.n0
    ·exact z g2.nB
   rw[b9,nH n1,nH n2];exact e
  ·by_cases y:c=p
   ·subst y;exact⟨_,nI⟩
   ·rw[nH y];by_cases y2:c=a
    ·subst y2;exact⟨_,nI⟩
    ·rw[nH y2];exact⟨o,e⟩
end
def uh(vk:D->Option D):List D->List Key->List (List D)->Option (List Key×List (List D))
 |[],ks,dss=>some (ks,dss)
 |d::r,ks,dss=>match vk d with
  |some x=>match uO x with
   |some k=>if (decide (ks.length<1000)&&dss.all λds=>decide (ds.length<1000))=true then uh vk r (tJ ks dss k d).1 (tJ ks dss k d).2 else none
   |none=>none
  |none=>none
def Cd(vk:D->Option D):FS:=λρ=>match ρ with
 |[.im (.lst L),.un,.un]=>match uh vk L [] []with
  |some (ks,dss)=>some (.rt (.dic ks (dss.map .lst)) [.im (.lst L),.un,.un])
  |none=>none
 |_=>none
variable{H0:Hp}
section
variable{X:Cx}{G:Bg}
theorem wW{Hq:Hp}:∀(bs:List Addr) (dss:List (List D)),bs.length=dss.length->(∀(i:Nat) (b:Addr) (ds:List D),bs[i]?=some b->dss[i]?=some ds->∃xs,Hq b=some (.lst xs)/\ny G Hq ds xs)->
  ny G Hq (dss.map .lst) (bs.map V.ref)
 |[],[],_,_=>nY
 |[],_::_,h,_=>by cases h
 |_::_,[],h,_=>by cases h
 |b::bs,ds::dss,h,k=>by obtain⟨xs,h1,h2⟩:=k 0 b ds rfl rfl;exact n9 (r9 h1 h2) (wW bs dss (by simpa using h) λi b ds e1 e2=>k (i+1) b ds e1 e2)
theorem Ji{F:Fr}{σ:St}{H:Hp}{dss:List (List D)}{bs:List Addr}{L:List D}{s2:Sl}(R:nM G F σ [.im (.lst L),.un,s2] H0 H)(g:Grp G F H0 H a ks dss bs)(o:Obj):
  ∃Hq,nE H0 Hq/\nM G F σ [.im (.lst L),.un,.un] Hq (upd H a (.frz o (.dK (ks.zip (bs.map V.ref)))))/\Rep G Hq (.dic ks (dss.map .lst)) (.ref a):=by
 have mb:∀{b:Addr},b∈bs->∃xs,H b=some (.lst xs)/\H0 b=none/\F.B b=none:=λ{b} hb=>by obtain⟨i,hi,e⟩:=hX hb;obtain⟨xs,w1,w2,w3,_⟩:=g.each i b (dss[i]'(by rw[<-g.len'];exact hi)) (by rw[aP hi,e]) (aP _);exact⟨xs,w1,w2,w3⟩
 have na:a∉bs:=λz=>by obtain⟨xs,w1,_⟩:=mb z;rw[g.at_]at w1;cases w1
 have s0:nE H0 (λc=>if c=a then some (.frz o (.dK (ks.zip (bs.map V.ref))))else if c∈bs then H c else H0 c):=λc u e=>by
  have n1:c≠a:=λz=>by subst z;rw[g.n0]at e;cases e
  have n2:c∉bs:=λz=>by obtain⟨_,_,w2,_⟩:=mb z;rw[w2]at e;cases e
  show (if c=a then _ else if c∈bs then H c else H0 c)=_;rw[ai n1,ai n2];exact e
 refine⟨_,s0,?_,?_⟩
 ·exact {
   sub:=λc u e=>by
    have e':(if c=a then some (HO.frz o (.dK (ks.zip (bs.map V.ref))))else if c∈bs then H c else H0 c)=some u:=e;by_cases n1:c=a
    ·subst n1;rw[ag rfl]at e';rw[nI];exact e'
    ·rw[ai n1]at e';rw[nH n1];by_cases n2:c∈bs
     ·rw[ag n2]at e';exact e'
     ·rw[ai n2]at e';exact R.sub _ _ e'
   g0:=R.g0.trans s0
   keep:=λc u e n=>by rw[nH (λz=>by subst z;rw[g.nB]at e;cases e)];exact R.keep c u e n
   fr:=λc u e=>by
    have e':(if c=a then some (HO.frz o (.dK (ks.zip (bs.map V.ref))))else if c∈bs then H c else H0 c)=some u:=e;by_cases n1:c=a
    ·subst n1;exact .inr g.nB
    ·rw[ai n1]at e';by_cases n2:c∈bs
     ·obtain⟨_,_,_,w3⟩:=mb n2;exact .inr w3
     ·rw[ai n2]at e';exact R.fr _ _ e'
   am:=λc hc=>by
    by_cases n1:c=a
    ·subst n1;exact⟨_,nI⟩
    ·rw[nH n1];exact R.am c hc
   len:=R.len
   sl:=λi s e=>by
    match i,e with
    |0,e=>cases e;obtain⟨v,w1,w2⟩:=R.sl 0 _ rfl;exact⟨v,w1,Rep.mono s0 _ _ w2⟩
    |1,e=>cases e;trivial
    |2,e=>cases e;trivial
    |i+3,e=>cases e
   ap:=λi j s t b _ e _ so=>by
    match i,e with
    |0,e=>cases e;cases so
    |1,e=>cases e;cases so
    |2,e=>cases e;cases so
    |i+3,e=>cases e }
 ·unfold Rep;refine⟨a,o,bs.map V.ref,rfl,by show (if a=a then _ else _)=_;rw[ag rfl],by rw[af];exact g.len,wW bs dss g.len' λi b ds e1 e2=>?_⟩;obtain⟨xs,w1,w2,w3,w4⟩:=g.each i b ds e1 e2;have hb:=bz e1;refine⟨xs,?_,ny.mono s0 _ _ w4⟩;show (if b=a then _ else if b∈bs then H b else H0 b)=_;have nb:b≠a:=λz=>na (by rw[<-z];exact hb);rw[ai nb,ag hb];exact w1
def Gh{L:List D}{s2:Sl}(h:s2.own=false):∀s∈[Sl.im (.lst L),.un,s2],s.own=false:=λs hs=>by
 simp only[aO,dy,or_false]at hs;rcases hs with rfl|rfl|rfl
 ·rfl
 ·rfl
 ·exact h
inductive GI(G:Bg) (F:Fr) (Ha:Hp) (p:Addr) (L:List D) (vk:D->Option D) (KS:List Key) (DSS:List (List D)) (i:Nat) (σ':St) (H':Hp):Prop
 |mk (Hi:Hp) (ks:List Key) (dss:List (List D)) (bs:List Addr) (s2:Sl):nE Ha Hi->Sl.own s2=false->nM G F σ' [.im (.lst L),.un,s2] Hi H'->σ'[1]?=some (some (.ref p))->Grp G F Hi H' p ks dss bs->uh vk (L.drop i) ks dss=some (KS,DSS)->GI G F Ha p L vk KS DSS i σ' H'
theorem Ey{st1 st2 st3:Stmt}{vk:D->Option D}(h1:PS X st1 (uL BS (r6 1)))(h2:PS X st2 (KP (tFI G (iL (cV 0))) (r6 2) (Bl G (c1 vk (cV 2)))))
  (h3:PS X st3 (Ob (λσ H Q=>rW 1 σ H λx H1=>Q x H1\/∃a kvs,H1 a=some (.dK kvs)/\∀o,Q x (upd H1 a (.frz o (.dK kvs)))))):PSs X [st1,st2,st3] (tFS G (Cd vk)):=
 PSs.weak (vv h1 (vv h2 (xy h3))) λE σ H hh=>by
  obtain⟨F,ρ,H0,o,R,e,k,k2⟩:=hh;unfold Cd at e;split at e
  ·rename_i L;cases eg:uh vk L [] []with
   |none=>simp only[eg]at e;cases e
   |some p=>
    obtain⟨KS,DSS⟩:=p;simp only[eg]at e;cases e;intro p hp;have R1:nM G F (σ.set 1 (some (.ref p))) [.im (.lst L),.un,.un] H0 (upd H p (.dK [])):=(R.newOwn hp (.dK [])).set (i:=1) (v:=.ref p) (s:=.un) trivial (λz=>by cases z);have hlen:σ.length=3:=R.len;have g1:Grp G F H0 (upd H p (.dK [])) p [] [] []:=⟨nI,R.h0none hp,R.bNone hp,rfl,rfl,gp,gp,λi b ds e1=>by cases e1⟩;have v1:(σ.set 1 (some (V.ref p)))[1]?=some (some (.ref p)):=by rw[fY (by rw[hlen];decide)]
    refine⟨_,_,_,L,_,nM.still R1 (Gh rfl),rfl,λJ Ha Hb s Ra wk=>?_⟩;have hs:nE (upd H p (.dK [])) Hb:=λb o e=>Ra.keep b o e (by simp);have R2:=R1.grow hs s Ra.sub Ra.fr;have g2:=g1.grow hs s Ra.fr;refine⟨λi m σ' H'=>m=L.length - i/\i<=L.length/\GI G F Ha p L vk KS DSS i σ' H',
     ⟨_,rfl,bW _,Ha,[],[],[],.un,nE.refl _,rfl,R2,v1,g2,eg⟩,?_⟩
    rintro i m σi Hi' ⟨rfl,hi,Hi,ks,dss,bs,s2,si,n2,Ri,vi,gi,ei⟩;by_cases hlt:i<L.length
    ·have ed:L.drop i=L[i]::L.drop (i+1):=gU hlt;rw[ed]at ei;unfold uh at ei;cases ev:vk L[i]with
     |none=>simp only[ev]at ei;cases ei
     |some x=>
      simp only[ev]at ei;cases ek:uO x with
      |none=>simp only[ek]at ei;cases ei
      |some kk=>
       simp only[ek]at ei;split at ei
       ·rename_i hb;simp only[aB,bE,aK]at hb;obtain⟨go,yl⟩:=(wk i Hi Hi' si Ri.sub).1 L[i] (aP hlt);refine .inr ⟨go,GI G F Ha p L vk KS DSS (i+1),
         λσ' H' q=>⟨L.length - (i+1),by omega,rfl,hlt,q⟩,λxv H' y=>?_⟩
        obtain⟨H2,t1,t2,t3,t4,t5⟩:=yl xv H' y;have hl3:σi.length=3:=Ri.len;have R3:nM G F (σi.set 2 (some xv)) [.im (.lst L),.un,.im L[i]] H2 H':=(Ri.grow t3 t1 t2 t4).setIm 2 t5;have w1:(σi.set 2 (some xv))[1]?=some (some (.ref p)):=by rw[hE (by decide)];exact vi
        have w2:(σi.set 2 (some xv))[2]?=some (some xv):=by rw[fY (by rw[hl3];decide)]
        refine Gg R3 (Gh rfl) w1 w2 t5 (gi.grow t3 t1 t4) (by show c1 vk (cV 2) _=_;unfold c1 cV;simp only[gX,jh,ev]) ek hb.1 (λds hd=>hb.2 ds hd) λHc Hd bs' sc Rc gc=>?_;exact⟨Hc,_,_,bs',_,si.trans (t1.trans sc),rfl,Rc,w1,gc,ei⟩
       ·cases ei
    ·have hi':i=L.length:=by omega
     refine .inl ⟨(wk i Hi Hi' si Ri.sub).2 hi',?_⟩;subst hi';rw[List.drop_length]at ei;cases ei;refine⟨.ref p,vi,.inr ⟨p,_,gi.at_,λo=>?_⟩⟩;obtain⟨Hq,q1,q2,q3⟩:=Ji Ri gi o;exact k _ _ Hq _ (s.trans (si.trans q1)) q2 q3
  ·cases e
end
section
variable{X:Cx}{G:Bg}
theorem Jj:∀y b,pG "int" y=some b->cj X.K (y.val G) (.type "int")=some b:=λy b h=>by
 cases y with
 |c k=>cases h
 |b n=>
  unfold pG at h;simp only at h
  iterate 7 (split at h;· rename_i e;subst e;cases h;first|rfl|kernel_rfl)
  cases h
theorem Gi:∀y b,pG "bool" y=some b->cj X.K (y.val G) (.type "bool")=some b:=λy b h=>by
 cases y with
 |c k=>cases h
 |b n=>
  unfold pG at h;simp only at h
  iterate 7 (split at h;· rename_i e;subst e;cases h;first|rfl|kernel_rfl)
  cases h
theorem kit_tuple:∀y b,pG "tuple" y=some b->cj X.K (y.val G) (.type "tuple")=some b:=λy b h=>by
 cases y with
 |c k=>cases h
 |b n=>
  unfold pG at h;simp only at h
  iterate 7 (split at h;· rename_i e;subst e;cases h;first|rfl|kernel_rfl)
  cases h
end
def spL(G:Bg)(g:List D->List D->Option (D×List D)):Sp:=λvs H Q E=>∃(a:Addr) (us:List V),vs=us++[.ref a]/\spM G g (.ref a::us) H Q E
def stL(n:Nat)(es ds:List D):List Sl:=ds.map Sl.im++.pm es::fK (n - ds.length - 1) .un
def Ce(i:Nat)(ρ:List Sl):Option (List D):=match ρ[i]? with
 |some (.pm es)=>some es
 |_=>none
def fnL(np n:Nat)(f:FS):List D->List D->Option (D×List D):=λes ds=>if ds.length=np then match f (stL n es ds)with
 |some (.rt d ρ)=>match Ce np ρ with
  |some es'=>some (d,es')
  |none=>none
 |some (.rn xs ρ)=>match Ce np ρ with
  |some es'=>some (.lst xs,es')
  |none=>none
 |_=>none
 else none
theorem zk{ρ:List Sl}{es:List D}(h:Ce i ρ=some es):ρ[i]?=some (.pm es):=by
 unfold Ce at h;split at h
 ·rename_i e;cases h;exact e
 ·cases h
theorem Bm{n:Nat}{f:FS}{es:List D}(h:fnL np n f es ds=some (d,es')):ds.length=np/\((∃ρ,f (stL n es ds)=some (.rt d ρ)/\ρ[np]?=some (.pm es'))\/∃xs ρ,f (stL n es ds)=some (.rn xs ρ)/\ρ[np]?=some (.pm es')/\d=.lst xs):=by
 unfold fnL at h;split at h
 ·rename_i hl;refine⟨hl,?_⟩;split at h
  ·rename_i x ρ e;cases e2:Ce np ρ with
   |none=>simp only[e2]at h;cases h
   |some q=>simp only[e2]at h;cases h;exact .inl ⟨ρ,e,zk e2⟩
  ·rename_i x ρ e;cases e2:Ce np ρ with
   |none=>simp only[e2]at h;cases h
   |some q=>simp only[e2]at h;cases h;exact .inr ⟨x,ρ,e,zk e2,rfl⟩
  ·cases h
 ·cases h
theorem Ah{n:Nat}{es:List D}{t:Sl}(h:(stL n es ds)[i]?=some t):(i=ds.length/\t=.pm es)\/t=.un\/∃d,ds[i]?=some d/\t=.im d:=by
 unfold stL at h;by_cases hi:i<ds.length
 ·rw[ck (by simpa using hi),aZ,aP hi]at h;cases h;exact .inr (.inr ⟨_,aP hi,rfl⟩)
 ·rw[cH (by simpa using hi),af]at h;cases q:i - ds.length with
  |zero=>rw[q]at h;cases h;exact .inl ⟨by omega,rfl⟩
  |succ m=>
   rw[q,gX,fj]at h;split at h
   ·cases h;exact .inr (.inl rfl)
   ·cases h
variable{N:List Str}{E:XK}{es:List Expr}
section
variable{X:Cx}{G:Bg}
theorem Jk{us:List V}{es:List D}{H:Hp}(ha:H a=some (.lst xs))(h0:H0 a=none)(s:nE H0 H)(r1:ny G H0 es xs)(r:ny G H0 ds us)(hN:us.length+1<=N.length):nM G ⟨H0,H,[a]⟩ (L2.start N (us++[.ref a])) (stL N.length es ds) H0 H:={
  sub:=s
  g0:=nE.refl _
  keep:=λb o e _=>e
  fr:=λb o e=>.inl e
  am:=λb hb=>by rw[aU]at hb;subst hb;exact⟨_,ha⟩
  len:=by unfold L2.start stL;simp only[aw,af,bO,aD,b8];have:=nu r;omega
  sl:=λi t e=>by
   rcases Ah e with ⟨rfl,rfl⟩|rfl|⟨d,e1,rfl⟩
   ·exact⟨a,xs,p6 (by rw[nu r,cH (aA _),fP];rfl),ha,h0,aU.mpr rfl,r1⟩
   ·trivial
   ·obtain⟨v,e2,e3⟩:=qx r e1;exact⟨v,p6 (by rw[ck (bj.mp e2).1];exact e2),e3⟩
  ap:=λi j t u b hij ei ej ht hu=>by
   rcases Ah ei with ⟨rfl,rfl⟩|rfl|⟨_,_,rfl⟩
   ·rcases Ah ej with ⟨rfl,rfl⟩|rfl|⟨_,_,rfl⟩
    ·exact ak rfl hij
    ·cases hu
    ·cases hu
   ·cases ht
   ·cases ht }
theorem Jl{f:FS}{H:Hp}{Q:VK}(hN:np+1<=N.length)(h:spL G (fnL np N.length f) vs H Q E):tFS G f { nx:=λ_ H'=>Q .non H',rt:=Q } (L2.start N vs) H:=by
 obtain⟨a,us,rfl,b,us',xs,H0,es,ds,d,es',e0,ha,h0,s,r1,r,e,k⟩:=h;cases e0;obtain⟨hl,e1⟩:=Bm e;have R:=Jk (N:=N) ha h0 s r1 r (by rw[<-nu r,hl];exact hN);have fin:∀{v:V} {σ':St} {ρ':List Sl} {H0' H':Hp},nE H0 H0'->nM G ⟨H0,H,[a]⟩ σ' ρ' H0' H'->ρ'[np]?=some (.pm es')->Rep G H0' d v->Q v H':=λs' R' e2 rv=>by obtain⟨a',ys,q1,q2,q3,q4,q5⟩:=R'.sl np _ e2;have ea:a'=a:=aU.mp q4;subst ea;exact k _ ys _ _ s' R'.sub (λb o e n=>R'.keep b o e (λz=>n (aU.mp z))) R'.fr q3 q2 q5 rv
 rcases e1 with ⟨ρ,e1,e2⟩|⟨zs,ρ,e1,e2,rfl⟩
 ·exact⟨_,_,H0,_,R,e1,λv σ' H0' H' s' R' rv=>fin s' R' e2 rv,λ_=>rfl⟩
 ·refine⟨_,_,H0,_,R,e1,λp ys σ' H0' H' s' R' hp hp0 hb ap rs=>?_,λ_=>rfl⟩;exact fin (s'.trans (nQ hp0 _)) (R'.freeze hp hp0 hb ap) e2 (r9 nI (ny.mono (nQ hp0 _) _ _ rs))
theorem O2{g:List D->List D->Option (D×List D)}(hg:∀es ds d,g es ds=some d->ds.length=np):∀vs H Q E,spL G g vs H Q E->vs.length=np+1:=λvs H Q E h=>by obtain⟨a,us,rfl,h⟩:=h;have:=J4 hg _ _ _ _ h;rw[aw];exact this
theorem Jm{n:Nat}{f:FS}:∀es ds d,fnL np n f es ds=some d->ds.length=np:=λ_ _ d h=>(Bm (d:=d.1) (es':=d.2) h).1
def EA(G:Bg)(i:Nat)(a:FA):TA:=λσ H Q=>∃F ρ H0 ds ρ' es,nM G F σ ρ H0 H/\a ρ=some (ds,ρ')/\oM ρ' i=some es/\∀xs b H0' H',nE H0 H0'->nM G F σ ρ' H0' H'->ny G H0' ds xs->σ[i]?=some (some (.ref b))->Q (xs++[.ref b]) H'
theorem Gj(hv:PE X e (rW i))(hs:aq [e] X.env=[(false,eval e X.env)]:=by rfl):PA X [e] (EA G i n6):=PA.weak (qg hv sX hs) λσ H Q hh=>by obtain⟨F,ρ,H0,ds,ρ',es,R,e,el,k⟩:=hh;cases e;obtain⟨b,xs,s1,_⟩:=pF R el;exact⟨.ref b,s1,k [] b _ _ (nE.refl _) R nY s1⟩
theorem EB{g:FA}(ha:PE X e (tF G f))(hr:PA X es (EA G i g))(hs:aq (e::es) X.env=(false,eval e X.env)::aq es X.env:=by rfl):PA X (e::es) (EA G i (aCons f g)):=PA.weak (qg ha hr hs) λσ H Q hh=>by obtain⟨F,ρ,H0,d,ρ',es,R,e,el,k⟩:=hh;obtain⟨x,r,ρ1,e1,e2,rfl⟩:=xV e;exact⟨F,ρ,H0,x,ρ1,R,e1,λv H1 H1' s R' rv=>⟨F,ρ1,H1,r,ρ',es,R',e2,el,λxs b H2 H2' s2 R2 rs sb=>k _ _ _ _ (s.trans s2) R2 (n9 (Rep.mono s2 _ _ rv) rs) sb⟩⟩
def yh(g:List D->List D->Option (D×List D))(i:Nat)(a:FA):FE:=λρ=>match a ρ with
 |some (ds,ρ1)=>match oM ρ1 i with
  |some es=>match g es ds with
   |some (d,es')=>some (d,putAt ρ1 i es')
   |none=>none
  |none=>none
 |none=>none
theorem Jn{g:List D->List D->Option (D×List D)}{a:FA}(h:PE X e (tY (spL G g) [] E (EA G i a))):PE X e (tF G (yh g i a)):=PE.weak h λσ H Q hh=>by
 obtain⟨F,ρ,H0,d,ρ',R,e,k⟩:=hh;unfold yh at e;rcases nN (f:=a) (ρ:=ρ)with e1|⟨ds,ρ1,e1⟩<;>simp only[e1]at e
 ·cases e
 ·cases e2:oM ρ1 i with
  |none=>simp only[e2]at e;cases e
  |some es=>
   simp only[e2]at e;cases e3:g es ds with
   |none=>simp only[e3]at e;cases e
   |some q=>obtain⟨d1,es'⟩:=q;simp only[e3]at e;cases e;refine⟨F,ρ,H0,ds,ρ1,es,R,e1,e2,λys b H1 H1' s R' rs sb=>?_⟩;obtain⟨s,es0,es1⟩:=qp e2;obtain⟨b',xs',t1,t2,t3,t4⟩:=(R'.sl i s es0).lst es1;rw[pO t1]at sb;cases sb;refine⟨b,ys,bh _,b,ys,xs',H1,es,ds,d,es',rfl,t2,t3,R'.sub,t4,rs,e3,λv zs H2 H2' u1 u2 u3 fr w0 w1 w2 w3=>?_⟩;refine k _ _ _ (nE.trans ‹nE H0 H1› u1) ?_ w3;unfold putAt;rw[es0];exact R'.call1 es0 es1 t1 u1 u2 u3 fr w0 w1 w2
theorem Jo{k:Nat}{x:Str}{p:Pos}{a:FA}{ps:List Str}{g:List D->List D->Option (D×List D)}(D:sL X.prog X.w X.K X.mg X.base k x ps (spL G g))(hr:oQ k X.A)(ha:PA X (e::es) (EA G i a))(hg:Gl X x:=by rfl)(hdb:(x==("__debug__" : Str))=false:=by decide)(he:aq (e::es) X.env=(false,eval e X.env)::aq es X.env:=by rfl)(hpl:(aX pos (aq es X.env)).any (·.1)=false:=by rfl):
  PE X (.Call (.Name x p) (e::es) [] pos) (tF G (yh g i a)):=by
 obtain⟨f,fd,h1,h2,h3,h4⟩:=D;exact Jn (vw (p:=p) (pos:=pos) h4 hr hg h1 h2 h3 .nil wL ha hdb he hpl)
end
section
variable{P:ar}{w:ao}{K:aj}{mg:Str->Option aa}{base:Heap}{x qual:Str}{st:Stmt}{f T:Addr}{fd:bo}{N ps:List Str}{k:Nat}{G:Bg}
theorem O3{n:Nat}{g:List D->List D->Option (D×List D)}(hg:g=fnL np n b)(hp:ps.length=np+1)(hN:N.length=n)(F:Fun K x qual st f fd)(S:oX N ps (nG st))(body:∀(cdv:aa) (A:av) (outer:List Env) (s:ae) (H:Hp) (E:XK),oQ k (A.deeper (envOfC qual (nG st) s.heap.objs.size f cdv))->PSs (tR P w K mg base N qual st f cdv A outer s H E) (nV st) (tFS G b)):
  qu P w K mg base CX0 (k+1) f fd ps (spL G g):=by
 subst hg hN;refine F.ok S (λvs H Q E h=>?_) λcdv A outer s H vs Q E hr h=>⟨_,body cdv A outer s H E hr,Jl (by have:=aM bM S.pre;rw[bf]at this;omega) h⟩;rw[hp];exact O2 Jm vs H Q E h
end
end L4
namespace L4
open PySem PySem.Spec PySem.Calls PyProof.Rows PySem.W L2 L3
inductive StrsAre:List aa->List Str->Prop
 |nil:StrsAre [] []
 |cons (x:Str) (t:Tok) {vs:List aa} {xs:List Str} (h:StrsAre vs xs):StrsAre (.str x t::vs) (x::xs)
end L4
namespace L4
open PySem PySem.Spec PyProof.Rows L2 L3
def Dh:List String:=["NoneType", "bool", "int", "str", "tuple", "list", "dict"]
def zl(n c:Nat):Ty->Option Bool:=λy=>match y with
 |.b x=>if Dh.contains x=true then some false else none
 |.c k=>if k<n then some (k==c)else none
def xD(K:aj)(cs:List Addr)(C:Addr)(c:Nat):Bool:=
 Dh.all (λx=>cj K (.type x) (.ref C)==some false)&&(aV cs.length).all λk=>cj K (.ref (cs.getD k 0)) (.ref C)==some (k==c)
theorem zm{B:Bg}{n c:Nat}{cs:List Addr}(h:xD B.K cs (B.ca c) c=true)(hn:cs.length=n)(hc:∀k,k<n->cs.getD k 0=B.ca k)(hI:∀k,k<n->Eo B.K (B.ca k)):B5 B c (zl n c):=by
 unfold xD at h;rw[aB,aK,aK]at h;refine⟨λy b e=>?_,λj b e=>?_⟩
 ·cases y with
  |b x=>
   unfold zl at e;simp only at e;split at e
   ·rename_i hx;cases e;exact eU (h.1 x (ju.mp hx))
   ·cases e
  |c k=>
   unfold zl at e;simp only at e;split at e
   ·rename_i hk;cases e;have:=eU (h.2 k (bH.mpr (by omega)));rw[hc k hk]at this;exact this
   ·cases e
 ·unfold zl at e;simp only at e;split at e
  ·rename_i hk;exact hI j hk
  ·cases e
theorem Md{l:List Addr}(h:l.Nodup){j k:Nat}(hj:j<l.length)(hk:k<l.length)(e:l.getD j 0=l.getD k 0):j=k:=by
 rw[fW,fW,aP hj,aP hk]at e;have pw:=jd.mp h;rcases jX j k with y|y|y
 ·exact ak e (pw j k hj hk y)
 ·exact y
 ·exact ak e.symm (pw k j hk hj y)
variable{x:Str}
section
variable{B:Bg}{K:aj}{mg:Str->Option aa}{h:Heap}
theorem const_int{i:Int}{t:Tok}(X:K.In h)(Gn:h.Ns aJ mg)(e:eZ K aJ x=some (some (.int i t))):uH B mg x (.int i):=
 ⟨.int i,_,gQ X Gn e,⟨_,rfl⟩,λ_=>o8 _⟩
inductive tK:List aa->List Str->Prop
 |nil:tK [] []
 |cons {v:aa} {x:Str} {t:Tok} {vs:List aa} {xs:List Str} (e:v=.str x t) (h:tK vs xs):tK (v::vs) (x::xs)
theorem tK.vals{vs:List aa}{xs:List Str}(h:tK vs xs):Vals (xs.map V.str) vs:=by
 induction h with
 |nil=>exact .nil
 |cons e h ih=>exact .cons ⟨_,e⟩ ih
theorem yi{H:Hp}:∀xs:List Str,ny B H (xs.map D.str) (xs.map V.str)
 |[]=>nY
 |x::xs=>n9 (vA x) (yi xs)
theorem Cf{a:Addr}{o:Obj}{its:Array aa}{n:Nat}(xs:List Str)(X:B.K.In h)(Gn:h.Ns aJ mg)(e:eZ B.K aJ x=some (some (.ref a)))(l:B.K.lookup a=some o)(hc:o.cls=.type "tuple")(hd:o.data=.seq its n)(hz:its.size<=1000)
  (r:tK its.toList xs):uH B mg x (.tup (xs.map D.str)):=
 ⟨.ref a,_,gQ X Gn e,rfl,λH=>zY (.inr ⟨o,its,n,l,hc,hd,by rw[cz];omega,r.vals⟩) (yi xs)⟩
end
variable{l ns:List Str}
section
variable{f g' h:FS}{c:FT}{e e' e2:FE}{a a':FA}{ρ ρ' ρ1 ρ2 ρ3:List Sl}{d x y z:D}{ds xs ys:List D}{k:Nat}{cap:List Nat}{g:FG}{ft:FT}{fe:FE}
theorem yj{α:Type}(dd:α->D)(p:α->Bool)(h:α->D):∀l:List α,
  (∀a∈l,∃ρ1 ρ2,g (dd a) (vH k cap ρ)=some ρ1/\ft ρ1=some (p a,ρ2)/\(p a=true->∃ρ3,fe ρ2=some (h a,ρ3)/\qq cap (ρ3.drop k) ρ=some ρ)/\(p a=false->qq cap (ρ2.drop k) ρ=some ρ))->
  qz k cap g ft fe (l.map dd) ρ=some ((l.filter p).map h,ρ)
 |[],_=>rfl
 |a::l,st=>by
  obtain⟨ρ1,ρ2,h1,h2,h3,h4⟩:=st a aE;have ih:=yj dd p h l λa' ha=>st a' (aG _ ha);rw[aF];unfold qz;rw[h1];simp only[h2];cases hp:p a with
  |true=>obtain⟨ρ3,h5,h6⟩:=h3 hp;simp only[h5,h6,ih,gj,hp,if_true,aF]
  |false=>simp only[h4 hp,ih,gj,hp];rfl
theorem Jp{α:Type}(dd:α->D)(h:α->D)(l:List α)(st:∀a∈l,∃ρ1 ρ3,g (dd a) (vH k cap ρ)=some ρ1/\fe ρ1=some (h a,ρ3)/\qq cap (ρ3.drop k) ρ=some ρ):qz k cap g oh fe (l.map dd) ρ=some (l.map h,ρ):=by have:=yj (ft:=oh) dd (λ_=>true) h l λa ha=>let ⟨ρ1,ρ3,h1,h2,h3⟩:=st a ha;⟨ρ1,ρ1,h1,rfl,λ_=>⟨ρ3,h2,h3⟩,λz=>by cases z⟩;rw[this,jE.mpr λ_ _=>rfl]
theorem Di(neg:Bool)(a b:Str):dEq neg (.str a) (.str b)=some (.bl (if neg then !decide (a=b)else decide (a=b))):=by
 have e:BY neg (.str a) (.str b)=some (.bl (if neg then !decide (V.str a=V.str b)else decide (V.str a=V.str b))):=rfl;have e2:decide (V.str a=V.str b)=decide (a=b):=by
  by_cases h:a=b
  ·subst h;simp
  ·rw[aQ h,aQ (λz=>h (by injection z))]
 unfold dEq;rw[e,e2]
theorem Gk(a:Str)(l:List Str):inV (V.str a) (l.map V.str)=decide (a∈l):=by
 unfold inV;rw[dB,cv,bE];constructor
 ·rintro⟨v,hv,he⟩;obtain⟨b,hb,rfl⟩:=az.mp hv;have:b=a:=by unfold eqV at he;simpa using he
  rw[<-this];exact hb
 ·intro ha;refine⟨.str a,aR ha,?_⟩;unfold eqV;simp
theorem EC(l:List Str):(l.map D.str).all pR=true:=by rw[gx,aK];intro x _;rfl
theorem Jq(l:List Str):(l.map D.str).map vD=l.map V.str:=by rw[aY];rfl
theorem yk(neg:Bool)(a:Str)(l:List Str):dIn neg (.str a) (.lst (l.map D.str))=some (.bl (if neg then !decide (a∈l)else decide (a∈l))):=by unfold dIn;show (if pR (.str a)&&(l.map D.str).all pR then some (D.bl (if neg then !inV (vD (.str a)) ((l.map D.str).map vD)else inV (vD (.str a)) ((l.map D.str).map vD)))else none)=_;rw[EC,Jq];show some (D.bl (if neg then !inV (V.str a) (l.map V.str)else inV (V.str a) (l.map V.str)))=_;rw[Gk]
theorem Gm(neg:Bool)(a:Str)(l:List Str):dIn neg (.str a) (.tup (l.map D.str))=some (.bl (if neg then !decide (a∈l)else decide (a∈l))):=yk neg a l
theorem Ai:∀bs:List Bool,yT (bs.map D.bl)=some bs
 |[]=>rfl
 |b::bs=>by rw[aF];unfold yT;rw[Ai bs];rfl
theorem Gp(bs:List Bool):pL (.lst (bs.map D.bl))=some (.bl (bs.all id)):=by unfold pL;simp only[Ai];rfl
theorem Gq(bs:List Bool):ye (.lst (bs.map D.bl))=some (.bl (bs.any id)):=by unfold ye;simp only[Ai];rfl
theorem Jr{α:Type}(l:List α)(p:α->Bool):pL (.lst (l.map λa=>D.bl (p a)))=some (.bl (l.all p)):=by rw[show (l.map λa=>D.bl (p a))=(l.map p).map D.bl by rw[aY];rfl,Gp,gx];rfl
theorem Js{α:Type}(l:List α)(p:α->Bool):ye (.lst (l.map λa=>D.bl (p a)))=some (.bl (l.any p)):=by rw[show (l.map λa=>D.bl (p a))=(l.map p).map D.bl by rw[aY];rfl,Gq,List.any_map];rfl
theorem ym:∀l:List Str,uR (l.map D.str)=some (l.map Sum.inr)
 |[]=>rfl
 |x::l=>by rw[aF];unfold uR;rw[ym l];rfl
theorem Gr:∀(l acc:List Key),(acc++l).Nodup->l.foldl ddp acc=acc++l
 |[],acc,_=>by rw[bh];rfl
 |k::l,acc,h=>by
  have hn:acc.any (λz=>decide (z=k))=false:=by rw[fF];intro z;obtain⟨y,hy,ey⟩:=cv.mp z;rw[bG]at h;exact h.2.2 y hy k aE (bK ey)
  rw[cy,show ddp acc k=acc++[k] by unfold ddp;rw[hn];rfl,Gr l (acc++[k]) (by simpa using h)];simp
theorem wu(h:l.Nodup):(l.map (Sum.inr:Str->Key)).Nodup:=by unfold List.Nodup at h ⊢;rw[jY];exact h.imp λhne z=>hne (gy z)
theorem Bn(h:l.Nodup)(hl:l.length<=1000):pf (l.map D.str)=some (.int l.length):=by unfold pf;rw[ym];simp only[af,hl,if_true];unfold rL;rw[Gr _ [] (by simpa using wu h)];simp
theorem xE(neg:Bool)(a b:Int):dEq neg (.int a) (.int b)=some (.bl (if neg then !decide (a=b)else decide (a=b))):=by
 have e:BY neg (.int a) (.int b)=some (.bl (if neg then !decide (V.int a=V.int b)else decide (V.int a=V.int b))):=rfl;have e2:decide (V.int a=V.int b)=decide (a=b):=by
  by_cases h:a=b
  ·subst h;simp
  ·rw[aQ h,aQ (λz=>h (by injection z))]
 unfold dEq;rw[e,e2]
theorem pS(h1:e ρ=some (.bl true,ρ1)):pM e e' ρ=e' ρ1:=by unfold pM;rw[h1]
theorem vN{g:Nat->Option (List D->Option D)}{m:Str}{c:Nat}{hh:List D->Option D}(h1:e ρ=some (.obj c ns xs,ρ1))(h2:g c=some hh)(h3:ns.contains m=false)(h4:a ρ1=some (ys,ρ2))(h5:hh (.obj c ns xs::ys)=some d):qo g m e a ρ=some (d,ρ2):=by unfold qo;rw[h1];simp only[h2,h3,h4,h5];rfl
theorem Aj{c:Nat}{g:List D->Option (List Str×List D)}(h1:a ρ=some (ds,ρ1))(h2:g ds=some (ns,xs)):nU c g a ρ=some (.obj c ns xs,ρ1):=by unfold nU;rw[h1];simp only[h2]
theorem Gs{np n:Nat}{b:FS}(hl:ds.length=np)(h:b (L4.stE n ds)=some (.rn xs ρ)):fnD np n b ds=some (.lst xs):=by unfold fnD;rw[ag hl,h]
theorem Bo:∀{ks:List Key} {ds:List D} {k:Key} {d:D},ks.Nodup->(k,d)∈ks.zip ds->yd ks ds k=some d
 |[],_,k,d,_,h=>by simp at h
 |k'::ks,[],k,d,_,h=>by simp at h
 |k'::ks,d'::ds,k,d,nd,h=>by
  unfold yd;rw[du]at h;rcases aO.mp h with e|h
  ·cases e;rw[ag rfl]
  ·rw[cY]at nd;rw[ai (λz=>nd.1 (by subst z;exact(gm h).1))];exact Bo nd.2 h
end
end L4
namespace L4
open PySem PySem.Spec PyProof.Rows L2 L3
open PySem.W (nsIn findIn keepIn isFn makesIn fnOf)
def Cg{α:Type}:Nat->(List α->Prop)->Prop
 |0,P=>P []
 |n+1,P=>∀a,Cg n λl=>P (a::l)
theorem xF{α:Type}:∀{n:Nat} {P:List α->Prop},Cg n P->∀l,l.length=n->P l
 |0,P,h,[],_=>h
 |n+1,P,h,a::l,e=>xF (P:=λl=>P (a::l)) (h a) l (eR e)
structure CF(K:aj)(C:Addr)(xs:List Str):Prop where
 ci:Eo K C
 mks:makesIn K C=true
 kp:keepIn K (.ref C)=true
 na:(xs.all λx=>match findIn K (.ref C) x with|some none=>true|_=>false)=true
theorem CF.at{K:aj}{C:Addr}{xs:List Str}(c:CF K C xs)(i:Nat){x:Str}(h:xs[i]?=some x):Cls K C/\rJ K C x:=⟨c.ci.cl,by
 have e:=aK.mp c.na x (bz h);unfold rJ;split at e
 ·rename_i e1;exact e1
 ·cases e⟩
variable{i:Nat}
theorem vd{Q:Nat->Prop}(h:Q i):∀c,(c==i)=true->Q c:=λc e=>by rw[beq_iff_eq]at e;subst e;exact h
theorem orQ{Q:Nat->Prop}{p:Nat->Bool}(h:∀c,p c=true->Q c)(h':Q i):∀c,(p c||c==i)=true->Q c:=λc e=>by
 rw[dX]at e;rcases e with e|e
 ·exact h c e
 ·exact vd h' c e
structure Yw(P:ar)(w:ao)(mg:Str->Option aa)(base:Heap)(G:Bg):Prop where
 m:∃h:Heap,G.K.In h/\h.Ns aJ mg
variable{np:Nat}{b:FS}{vs:List V}{us:List aa}
section
variable{P:ar}{w:ao}{mg:Str->Option aa}{base:Heap}{G:Bg}{x m qual:Str}{st:Stmt}{N ps:List Str}{k c:Nat}{K:aj}
theorem Yw.g(y:Yw P w mg base G){v:aa}(e:nsIn G.K aJ x=some (some v)):mg x=some v:=by obtain⟨h,X,Gn⟩:=y.m;exact gQ X Gn e
theorem Yw.n(y:Yw P w mg base G){xs:List Str}(h:(xs.all λx=>match nsIn G.K aJ x with|some none=>true|_=>false)=true)(i:Nat)(hi:xs[i]?=some x):mg x=none:=by
 obtain⟨hh,X,Gn⟩:=y.m;have e:=aK.mp h x (bz hi);split at e
 ·rename_i e1;exact W.mg_none_of X Gn e1
 ·cases e
def GC(K:aj)(x:Str)(i:Int):Prop:=∃t:Tok,nsIn K aJ x=some (some (.int i t))
theorem Yw.ci(y:Yw P w mg base G){i:Int}(q:GC G.K x i):uH G mg x (.int i):=by obtain⟨h,X,Gn⟩:=y.m;obtain⟨t,e⟩:=q;exact const_int X Gn e
def GS(K:aj)(x:Str)(xs:List Str):Prop:=∃(a:Addr) (o:Obj) (its:Array aa) (n:Nat),nsIn K aJ x=some (some (.ref a))/\K.lookup a=some o/\o.cls=.type "tuple" /\ o.data=.seq its n/\its.size<=1000/\tK its.toList xs
theorem Yw.cs(y:Yw P w mg base G){xs:List Str}(q:GS G.K x xs):uH G mg x (.tup (xs.map D.str)):=by obtain⟨h,X,Gn⟩:=y.m;obtain⟨a,o,its,n,e,l,h1,h2,h3,h4⟩:=q;exact Cf xs X Gn e l h1 h2 h3 h4
def GD(K:aj)(x:Str)(st:Stmt):Prop:=∃(f:Addr) (fd:bo),nsIn K aJ x=some (some (.ref f))/\Fun K x x st f fd
def GM(K:aj)(C:Addr)(m qual:Str)(st:Stmt):Prop:=∃(f:Addr) (fd:bo),findIn K (.ref C) m=some (some (.ref f))/\isFn K (.ref f)=true/\Fun K m qual st f fd
def GJ(K:aj)(C:Addr)(qual:Str)(st:Stmt)(vs:List V):Prop:=∃(f:Addr) (fd:bo) (T:Addr) (o:Obj) (dl:List aa) (n:Nat),findIn K (.ref C) "__init__" = some (some (.ref f))/\isFn K (.ref f)=true/\Ec K "__init__" qual st f fd T/\K.lookup T=some o/\o.data=.seq dl.toArray n/\Vals vs dl
abbrev Bdy(P:ar)(w:ao)(K:aj)(mg:Str->Option aa)(base:Heap)(N:List Str)(qual:Str)(st:Stmt)(k:Nat)(t:TS):Prop:=∀(f:Addr) (cdv:aa) (A:av) (outer:List Env) (s:ae) (H:Hp) (E:XK),oQ k (A.deeper (envOfC qual (nG st) s.heap.objs.size f cdv))->PSs (tR P w K mg base N qual st f cdv A outer s H E) (nV st) t
abbrev Bds(x qual:Str)(st:Stmt)(ps:List Str):Prop:=Cg ps.length λus=>∀(kV doc pm:aa) (an:Option Addr) (cdv ct:aa),bindArgs (fnOf x qual (qv st) (nV st) (nG st) .none kV doc pm an cdv ct) ⟨us,[]⟩=pure (ps.zip us)
theorem Bds.ok{f:Addr}{fd:bo}(b:Bds x qual st ps)(F:Fun K x qual st f fd):Binds K fd ps []:=F.binds λkV doc pm an cdv ct us hl=>xF b us hl kV doc pm an cdv ct
theorem gD{sp:Sp}(y:Yw P w mg base G)(q:GD G.K x st)(bd:Bds x x st ps)(ok:∀f fd,Fun G.K x x st f fd->qu P w G.K mg base CX0 k f fd ps sp):sL P w G.K mg base k x ps sp:=by obtain⟨f,fd,a,F⟩:=q;exact⟨f,fd,y.g a,F.kp,bd.ok F,ok f fd F⟩
theorem gF{n:Nat}{g:List D->Option D}(hg:g=fnD np n b)(y:Yw P w mg base G)(q:GD G.K x st)(S:oX N ps (nG st))(body:Bdy P w G.K mg base N x st k (tFS G b))(hp:ps.length=np:=by rfl)(hN:N.length=n:=by rfl)(bd:Bds x x st ps:=by (repeat intro _);rfl):sL P w G.K mg base (k+1) x ps (spF G g):=
 gD y q bd λf fd F=>FX hg hp hN F S (body f)
theorem gN'{n:Nat}{g:List D->Option (List D)}(hg:g=fnN np n b)(y:Yw P w mg base G)(q:GD G.K x st)(S:oX N ps (nG st))(body:Bdy P w G.K mg base N x st k (tFS G b))(hp:ps.length=np:=by rfl)(hN:N.length=n:=by rfl)(bd:Bds x x st ps:=by (repeat intro _);rfl):sL P w G.K mg base (k+1) x ps (spN G g):=
 gD y q bd λf fd F=>OU hg hp hN F S (body f)
theorem gM{n:Nat}{g:List D->List D->Option (D×List D)}{p:Str}(hg:g=fnM np n b)(y:Yw P w mg base G)(q:GD G.K x st)(S:oX N (p::ps) (nG st))(body:Bdy P w G.K mg base N x st k (tFS G b))(hp:ps.length=np:=by rfl)(hN:N.length=n:=by rfl)(bd:Bds x x st (p::ps):=by (repeat intro _);rfl):sL P w G.K mg base (k+1) x (p::ps) (spM G g):=
 gD y q bd λf fd F=>OV hg hp hN F S (body f)
theorem gL{n:Nat}{g:List D->List D->Option (D×List D)}(hg:g=fnL np n b)(y:Yw P w mg base G)(q:GD G.K x st)(S:oX N ps (nG st))(body:Bdy P w G.K mg base N x st k (tFS G b))(hp:ps.length=np+1:=by rfl)(hN:N.length=n:=by rfl)(bd:Bds x x st ps:=by (repeat intro _);rfl):sL P w G.K mg base (k+1) x ps (spL G g):=
 gD y q bd λf fd F=>O3 hg hp hN F S (body f)
theorem gI{n:Nat}{g:List D->Option (List Str×List D)}{xs:List Str}{p:Str}(hg:g=fnI c np n b)(y:Yw P w mg base G)(C:CF G.K (G.ca c) xs)(a:nsIn G.K aJ x=some (some (.ref (G.ca c))))(q:GM G.K (G.ca c) "__init__" qual st)(S:oX N (p::ps) (nG st))(body:Bdy P w G.K mg base N qual st k (tFS G b))(hp:ps.length=np:=by rfl)(hN:N.length=n:=by rfl)(bd:Bds "__init__" qual st (p::ps):=by (repeat intro _);rfl):Aa G P w mg base (k+1) x c (p::ps) [] g:=by obtain⟨f,fd,i,i',F⟩:=q;exact⟨f,fd,[],⟨C.mks,i,i',C.kp⟩,y.g a,bd.ok F,.nil,OW hg hp hN F S (body f)⟩
theorem Bp(h:Vals vs us):us.length=vs.length:=by
 induction h with
 |nil=>rfl
 |cons _ _ ih=>rw[aD,aD,ih]
theorem ED(h:Vals vs us):∀j,Vals (vs.drop j) (us.drop j):=by
 induction h with
 |nil=>intro j;rw[kJ,kJ];exact .nil
 |cons a b ih=>
  intro j;cases j with
  |zero=>exact .cons a b
  |succ j=>exact ih j
theorem gJ{n:Nat}{g:List D->Option (List Str×List D)}{xs:List Str}{p:Str}(hg:g=fnI c np n b)(y:Yw P w mg base G)(C:CF G.K (G.ca c) xs)(a:nsIn G.K aJ x=some (some (.ref (G.ca c))))(q:GJ G.K (G.ca c) qual st vs)(S:oX N (p::ps) (nG st))(body:Bdy P w G.K mg base N qual st k (tFS G b))(j:Nat)(hp:ps.length=np:=by rfl)(hN:N.length=n:=by rfl)
  (bd:Cg vs.length λdl=>Cg ((p::ps).length - (vs.drop j).length) λus=>∀(T:Addr) (kV doc pm:aa) (an:Option Addr) (cdv ct:aa),∃k,bindArgs (fnOf "__init__" qual (qv st) (nV st) (nG st) (.ref T) kV doc pm an cdv ct) ⟨us,[]⟩=seqItems? (.ref T)>>=k/\k (some dl.toArray)=pure ((p::ps).zip (us++dl.drop j)):=by (repeat intro _);exact⟨_,rfl,rfl⟩):Aa G P w mg base (k+1) x c (p::ps) (vs.drop j) g:=by
 obtain⟨f,fd,T,o,dl,n,i,i',F,l,e,r⟩:=q;refine⟨f,fd,dl.drop j,⟨C.mks,i,i',C.kp⟩,y.g a,F.binds l e λkV doc pm an cdv ct us hl=>?_,ED r j,LV hg hp hN F S (body f)⟩;exact xF (xF bd dl (Bp r)) us (by rw[hl,cu,cu,Bp r]) T kV doc pm an cdv ct
end
end L4
namespace L4
open PySem PySem.Spec PyProof.Rows L2 L3
section
variable{X:Cx}{G:Bg}{pins:List (Addr×Obj)}{σ:St}{H:Hp}{s:ae}
def zp:D->Option D
 |.int i=>some (.int (-i))
 |_=>none
theorem Me{a:Expr}{f:FE}{pos:Pos}(ha:PE X a (tF G f)):PE X (.UnaryOp .USub a pos) (tF G (c1 zp f)):=PE.weak (Of K0 ha) λσ H Q hh=>by
 obtain⟨F,ρ,H0,d,ρ',R,e,k⟩:=hh;unfold c1 at e;split at e
 ·rename_i x ρ1 e1;cases x with
  |int i=>simp only[zp]at e;cases e;refine⟨F,ρ,H0,_,_,R,e1,λv H1 H1' s R' r=>?_⟩;unfold Rep at r;subst r;exact⟨i,rfl,k _ H1 H1' s R' (o8 _)⟩
  |_=>simp only[zp]at e;cases e
 ·cases e
end
end L4
namespace L4
open PySem PySem.Spec PySem.Calls PyProof.Rows PySem.W L2 L3
structure Sto(c:Nat->Nat->Bool)(n:Nat):Prop where
 tr:∀i j k,i<n->j<n->k<n->c i j=true->c j k=true->c i k=true
 tot:∀i j,i<n->j<n->i≠j->c i j=false->c j i=true
section
variable{X:Cx}{G:Bg}{pins:List (Addr×Obj)}{σ:St}{H:Hp}{s:ae}
def P9(K:aj)(H:Hp)(y:V)(k:List Str):Prop:=∃a p q,y=.ref a/\k=[p,q]/\SqT K H a [.str p,.str q]
end
def key2:D->Option (List Str)
 |.tup [.str p,.str q]=>some [p,q]
 |_=>none
def wX:List D->Option (List (List Str))
 |[]=>some []
 |d::ds=>match key2 d,wX ds with
  |some k,some ks=>some (k::ks)
  |_,_=>none
section
variable{X:Cx}{G:Bg}{H:Hp}
theorem Gu{d:D}{v:V}{k:List Str}(r:Rep G H d v)(e:key2 d=some k):P9 G.K H v k:=by
 unfold key2 at e;split at e
 ·rename_i p q;cases e;unfold Rep at r;obtain⟨a,xs,rfl,h1,h2⟩:=r;unfold ny at h2;obtain⟨v1,r1,rfl,q1,q2⟩:=h2;unfold ny at q2;obtain⟨v2,r2,rfl,q3,q4⟩:=q2;unfold ny at q4;unfold Rep at q1 q3;subst q4 q1 q3;exact⟨a,p,q,rfl,rfl,h1⟩
 ·cases e
end
end L4
namespace L4
open PySem PySem.Spec PyProof.Rows L2 L3
structure Bz where
 P:ar
 w:ao
 mg:Str->Option aa
 base:Heap
 G:Bg
structure ZE(X:Cx)(B:Bz)(e:Expr)(f:FE):Prop where p:PE X e (tF B.G f)
structure ZN(X:Cx)(B:Bz)(e:Expr)(f:FA):Prop where p:PE X e (tFN B.G f)
structure ZT(X:Cx)(B:Bz)(e:Expr)(f:FT):Prop where p:PT X e (tFT B.G f)
structure ZW(X:Cx)(B:Bz)(e:Expr)(f:FT):Prop where p:PW X e (tFT B.G f)
structure ZF(X:Cx)(B:Bz)(e:List Expr)(f:FT):Prop where p:PIf X e (tFT B.G f)
structure ZA(X:Cx)(B:Bz)(e:List Expr)(f:FA):Prop where p:PA X e (tFA B.G f)
structure ZM(X:Cx)(B:Bz)(e:List Expr)(i:Nat)(f:FA):Prop where p:PA X e (EA B.G i f)
structure ZS(X:Cx)(B:Bz)(e:Stmt)(f:FS):Prop where p:PS X e (tFS B.G f)
structure ZB(X:Cx)(B:Bz)(e:List Stmt)(f:FS):Prop where p:PSs X e (tFS B.G f)
structure ZI(X:Cx)(B:Bz)(tg e:Expr)(f:FA):Prop where p:PI X tg e (tFI B.G f)
structure ZO(X:Cx)(B:Bz)(e:Option Expr)(f:FO):Prop where p:PO X e (tFO B.G f)
structure ZG(X:Cx)(B:Bz)(e:Expr)(n:Nat)(f:FG):Prop where p:PG X e (tFG B.G n f)
structure ZH(X:Cx)(B:Bz)(e:List Expr)(n:Nat)(f:List D->List Sl->Option (List Sl)):Prop where p:PGs X e (Ft B.G n f)
structure ZV(X:Cx)(e:Expr)(i:Nat):Prop where p:PE X e (rW i)
abbrev Gz(X:Cx)(x:Str):Prop:=X.env.kindOf x=some .globalImplicit
abbrev Dz(x:Str):Prop:=(x==("__debug__" : Str))=false
abbrev Nz(x:Str):Prop:=(decide (x≠"__name__")&&!(x==("__debug__" : Str)))=true
abbrev Sz(X:Cx)(e:Expr)(es:List Expr):Prop:=aq (e::es) X.env=(false,eval e X.env)::aq es X.env
abbrev S1(X:Cx)(e:Expr):Prop:=aq [e] X.env=[(false,eval e X.env)]
abbrev Lz(X:Cx)(pos:Pos)(es:List Expr):Prop:=(aX pos (aq es X.env)).any (·.1)=false
abbrev Wz(X:Cx)(e o:Expr)(pos:Pos):Prop:=bX e (some o) pos.line X.env=pure false
abbrev Az(X:Cx)(o:Expr)(m:Str):Prop:=dZ o m X.env (eval o X.env)=eval o X.env
abbrev Ez(p pos:Pos):Prop:=(p.endLine==pos.line)=true
abbrev Iz(e:Expr):Prop:=(λo i=>subscripted e false o i)=λo i=>operate [o,i] (getItem o i)
abbrev Fz(X:Cx)(e:Expr):Prop:=(λx=>fC e X.env x)=λx=>pure x
class Cz(X:Cx)(B:outParam Bz)(k:outParam Nat):Prop where
 P:X.prog=B.P
 w:X.w=B.w
 K:X.K=B.G.K
 mg:X.mg=B.mg
 b:X.base=B.base
 c:X.calm=true
 r:oQ k X.A
class Yb(B:Bz):Prop where y:Yw B.P B.w B.mg B.base B.G
class Df(B:Bz)(j:outParam Nat)(x:Str)(sp:Sp):Prop where p:∃ps,sL B.P B.w B.G.K B.mg B.base j x ps sp
class Kf(B:Bz)(j:outParam Nat)(x:Str)(c:Nat)(g:List D->Option (List Str×List D))(dds:List D):Prop where
 p:∃ps,Aa B.G B.P B.w B.mg B.base j x c ps (dds.map vD) g
 f:dds.all pR=true
class Mf(B:Bz)(j:outParam Nat)(m:Str)(g:Nat->Option (List D->Option D)):Prop where p:∀c h,g c=some h->wq B.G B.P B.w B.mg B.base j m c h
class Ff(B:Bz)(ok:Nat->Bool)(f:Str):Prop where p:∀c,ok c=true->Cls B.G.K (B.G.ca c)/\rJ B.G.K (B.G.ca c) f
class Af(B:Bz)(c:Nat)(xs:outParam (List Str)):Prop where p:CF B.G.K (B.G.ca c) xs
class Nb(B:Bz)(x:Str):Prop where p:B.mg x=none
class Co(B:Bz)(x:Str)(d:D):Prop where p:uH B.G B.mg x d
class Ic(B:Bz)(x:Str)(t:Ty->Option Bool):Prop where p:∃c,B5 B.G c t/\B.mg x=some (.ref (B.G.ca c))
class Ij(B:Bz)(n:Nat):Prop where p:∀j k,j<n->k<n->B.G.ca j=B.G.ca k->j=k
class OpC(op:gH)(g:D->D->Option D):Prop where p:∀(X:Cx) (G:Bg),∃r,OpR X (cF op) r/\OpD G r g
instance in1:OpC .Mod qe:=⟨λ_ _=>⟨_,KY,LB⟩⟩
instance in2:OpC .FloorDiv sJ:=⟨λ_ _=>⟨_,Hw,LC⟩⟩
instance in3:OpC .Mult rK:=⟨λ_ _=>⟨_,KW,LA⟩⟩
instance in5:OpC .Pow FK:=⟨λ_ _=>⟨_,KZ,LF⟩⟩
instance in6:OpC .Add qd:=⟨λ_ _=>⟨_,KU,Ly⟩⟩
class CmC(op:eB)(g:D->D->Option D):Prop where p:∀(X:Cx) (G:Bg),X.K=G.K->X.A.units+64<cLine->∃r,OpR X (aW op) r/\OpD G r g
instance in9:CmC .Eq (dEq false):=⟨λ_ _ h u=>⟨_,LL u h,OR⟩⟩
instance in10:CmC .NotEq (dEq true):=⟨λ_ _ h u=>⟨_,LM u h,OS⟩⟩
instance in11:CmC .In (dIn false):=⟨λ_ _ h _=>⟨_,LN h,J7⟩⟩
instance in12:CmC .NotIn (dIn true):=⟨λ_ _ h _=>⟨_,Ek h,J7⟩⟩
instance in13:CmC .Is xu:=⟨λ_ _ _ _=>⟨_,K1,LH⟩⟩
instance in14:CmC .IsNot ze:=⟨λ_ _ _ _=>⟨_,Hy,IP⟩⟩
instance in16:CmC .Lt A9:=⟨λ_ _ _ _=>⟨_,Oj,ON⟩⟩
instance in17:CmC .LtE rX:=⟨λ_ _ _ _=>⟨_,Ol,OO⟩⟩
instance in18:CmC .Gt FL:=⟨λ_ _ _ _=>⟨_,Om,OP⟩⟩
instance in19:CmC .GtE Lx:=⟨λ_ _ _ _=>⟨_,On,OQ⟩⟩
instance in20:CmC .LtE FM:=⟨λ_ _ _ _=>⟨_,Eb,LG⟩⟩
class B1(x:Str)(g:D->Option D):Prop where p:∀(X:Cx) (G:Bg),X.K=G.K->X.calm=true->∃(id:String) (r:List V->Hp->VK->Prop),pD X (.builtin id) r/\zf G r g/\cO x=some (.builtin id)
instance in21:B1 "len" oR:=⟨λ_ _ h _=>⟨_,_,Em h,LO,kA⟩⟩
instance in22:B1 "all" pL:=⟨λ_ _ h c=>⟨_,_,En c h,LR,boot_all⟩⟩
instance in23:B1 "any" ye:=⟨λ_ _ h c=>⟨_,_,Eu c h,LZ,boot_any⟩⟩
class KtC(x:Str)(T:outParam String):Prop where p:(∀(X:Cx) (G:Bg) y b,pG T y=some b->cj X.K (y.val G) (.type T)=some b)/\cO x=some (.type T)
instance in24:KtC "str" "str" := ⟨λ_ _=>IW,Pv.boot_str⟩
instance in25:KtC "int" "int" := ⟨λ_ _=>Jj,lq⟩
instance in26:KtC "bool" "bool" := ⟨λ_ _=>Gi,Pv.boot_bool⟩
instance in27:KtC "list" "list" := ⟨λ_ _=>F0,kT⟩
instance in28:KtC "tuple" "tuple" := ⟨λ_ _=>kit_tuple,Pv.boot_tuple⟩
theorem Kc{G:Bg}{H:Hp}:∀{dds:List D},dds.all pR=true->ny G H dds (dds.map vD)
 |[],_=>nY
 |d::ds,h=>by rw[c8,aB]at h;exact n9 (vJ h.1 H) (Kc h.2)
theorem eqI{α:Sort u}{a b:α}(h:a=b):a=b:=h
def sees(X:Cx)(i:Nat)(x:Str):Bool:=decide (X.N[i]?=some x)&&(match X.env.scope.names.lookup x with|some .local=>true|some .cell=>true|some .free=>true|_=>false)&&!(x==("__debug__" : Str))&&!(x==("__classdict__" : Str))
def sets(X:Cx)(i:Nat)(x:Str):Bool:=decide X.N.Nodup&&decide (X.N[i]?=some x)&&(match X.env.scope.names.lookup x with|some .local=>true|some .cell=>X.fn x|_=>false)
variable{ft fu:FT}{id T:String}
section
variable{X:Cx}{B:Bz}{k j i n c0:Nat}{x m:Str}{e e' o tg it:Expr}{es:List Expr}{p p2 p3 pos apos:Pos}{f f' f2:FE}{a:FA}{g:D->D->Option D}
theorem pvI(h:sees X i x=true):PE X (.Name x p) (rW i):=by
 unfold sees at h;simp only[aB,bE,cq]at h;obtain⟨⟨⟨h1,h2⟩,h3⟩,h4⟩:=h;refine pv i h1 ?_ h3 h4;unfold Vis;split at h2
 ·rename_i e;exact .inl e
 ·rename_i e;exact .inr (.inl e)
 ·rename_i e;exact .inr (.inr e)
 ·cases h2
theorem O4(h:sees X i x=true):ZE X B (.Name x p) (cV i):=⟨BW (pvI h)⟩
theorem Mh(h:sees X i x=true):ZE X B (.Name x p) (cFz i):=⟨OM (pvI h)⟩
theorem Jt(h:sees X i x=true):ZN X B (.Name x p) (IH i):=⟨II (pvI h)⟩
theorem Ak(h:sets X i x=true):X.N.Nodup/\X.N[i]?=some x/\L2.Loc X.env.scope x/\(X.fn x=true\/X.env.scope.names.lookup x=some .local):=by
 unfold sets at h;simp only[aB,bE]at h;obtain⟨⟨h1,h2⟩,h3⟩:=h;unfold L2.Loc;split at h3
 ·rename_i e;exact⟨h1,h2,.inl e,.inr e⟩
 ·rename_i e;exact⟨h1,h2,.inr e,.inl h3⟩
 ·cases h3
theorem pgI(h:sets X i x=true):PG X (.Name x p) (r6 i):=by obtain⟨h1,h2,h3,h4⟩:=Ak h;exact Cu h1 h2 h3 h4
theorem Mi(h:sets X i x=true)(hi:Nat.blt i n=true):ZG X B (.Name x p) n (gN i):=⟨Fu n (pgI h) (Nat.blt_eq.mp hi)⟩
theorem stW{te:TE}(h:sets X i x=true)(he:PE X e te)(hs:Wz X e (.Name x p) pos):PS X (.Assign [.Name x p] e pos) (uL te (r6 i)):=by obtain⟨h1,h2,h3,h4⟩:=Ak h;exact KM h1 h2 h3 he hs h4
theorem Mj(h:sets X i x=true)(he:ZE X B e f)(hs:Wz X e (.Name x p) pos):ZS X B (.Assign [.Name x p] e pos) (ot i f):=⟨CQ (stW h he.p hs)⟩
theorem Ml(h:sets X i x=true)(he:ZN X B e a)(hs:Wz X e (.Name x p) pos):ZS X B (.Assign [.Name x p] e pos) (qy i a):=⟨A1 (stW h he.p hs)⟩
theorem Mn(h:sets X i x=true)(hs:Wz X (.Dict [] [] p2) (.Name x p) pos):ZS X B (.Assign [.Name x p] (.Dict [] [] p2) pos) (zh i):=⟨F3 (stW h AU hs)⟩
theorem Mo{op:gH}[O:OpC op g](ha:ZE X B e f)(hb:ZE X B e' f'):ZE X B (.BinOp e op e' pos) (c2 g f f'):=by obtain⟨r,h1,h2⟩:=O.p X B.G;exact⟨OD h1 h2 ha.p hb.p⟩
theorem Mp [C:Cz X B k](ha:ZE X B e f)(hb:ZE X B e' f')(hs:Iz e'):ZE X B (.Subscript e e' pos) (c2 dIx f f'):=⟨OE (P7 C.K) OT ha.p hb.p λo i=>congrFun (congrFun hs o) i⟩
theorem Ju [C:Cz X B k](h:sees X i x=true)(hb:ZE X B e' f')(hs:Iz e'):ZE X B (.Subscript (.Name x p) e' pos) (wg i f'):=⟨Lu (JX (Fi B.G.K C.K) (pvI h) hb.p λo i=>congrFun (congrFun hs o) i)⟩
theorem Mq [C:Cz X B k](ha:ZE X B e f)(hb:ZE X B e' f')(hs:Iz e'):ZE X B (.Subscript e e' pos) (c2 wQ f f'):=⟨I0 (J1 C.r) ha.p hb.p λo i=>congrFun (congrFun hs o) i⟩
section
variable{op op':eB}{g':D->D->Option D}
theorem Mr [O:CmC op g][C:Cz X B k](ha:ZE X B e f)(hb:ZE X B e' f')(hm:dY op e'=false):ZE X B (.Compare e [op] [e'] pos) (c2 g f f'):=by obtain⟨r,h1,h2⟩:=O.p X B.G C.K C.r.units;exact⟨Ll h1 h2 ha.p hb.p hm⟩
theorem Ms [O:CmC op g][C:Cz X B k](ha:ZE X B e f)(hb:ZE X B e' f')(hm:dY op e'=false):ZT X B (.Compare e [op] [e'] pos) (cT (c2 g f f')):=by obtain⟨r,h1,h2⟩:=O.p X B.G C.K C.r.units;exact⟨Ia h1 h2 ha.p hb.p hm⟩
theorem Mt [O:CmC op g][O':CmC op' g'][C:Cz X B k](ha:ZE X B e f)(hb:ZE X B e' f')(hc:ZE X B o f2)(hm:lastMarks [op,op'] [e',o]=false):ZE X B (.Compare e [op,op'] [e',o] pos) (qj g g' f f' f2):=by obtain⟨r,h1,h2⟩:=O.p X B.G C.K C.r.units;obtain⟨r',h3,h4⟩:=O'.p X B.G C.K C.r.units;exact⟨FV h1 h3 h2 h4 ha.p hb.p hc.p hm⟩
theorem Mu [O:CmC op g][O':CmC op' g'][C:Cz X B k](ha:ZE X B e f)(hb:ZE X B e' f')(hc:ZE X B o f2)(hm:lastMarks [op,op'] [e',o]=false):ZT X B (.Compare e [op,op'] [e',o] pos) (cT (qj g g' f f' f2)):=by obtain⟨r,h1,h2⟩:=O.p X B.G C.K C.r.units;obtain⟨r',h3,h4⟩:=O'.p X B.G C.K C.r.units;exact⟨Ep h1 h3 h2 h4 ha.p hb.p hc.p hm⟩
end
theorem Mv(h:ZE X B e f)(he:(λwhole=>isTrue e X.env whole)=λwhole=>(do let v<-whole;standAt e.pos;holding [v] (truthy v))):ZT X B e (cT f):=⟨Ib h.p λw=>congrFun he w⟩
theorem Mw(ha:ZT X B e ft)(hb:ZW X B (.BoolOp .Or (e'::es) pos) fu):ZT X B (.BoolOp .Or (e::e'::es) pos) (z5 ft fu):=⟨PW.pt (Fm ha.p hb.p)⟩
theorem Mx(ha:ZT X B e ft)(hb:ZW X B (.BoolOp .And (e'::es) pos) fu):ZT X B (.BoolOp .And (e::e'::es) pos) (vC ft fu):=⟨PW.pt (Ih ha.p hb.p)⟩
theorem My{d:D}[C:Cz X B k][Q:Co B x d](hg:Gz X x)(hd:Dz x):ZE X B (.Name x pos) (cC d):=⟨FY (C.mg▸Q.p) hg hd⟩
theorem Mz{ok:Nat->Bool}[C:Cz X B k][Q:Ff B ok m](he:ZE X B e f)(hb:Az X e m):ZE X B (.Attribute e m pos) (c1 (nR ok m) f):=⟨FB he.p (C.K▸Q.p) hb⟩
section
variable(hg:Gz X x)(hd:Dz x)(hs:Sz X e es)(hl:Lz X pos es)
include hg hd
theorem dz{sp:Sp}[C:Cz X B k][Q:Df B j x sp]:∃ps,sL X.prog X.w X.K X.mg X.base j x ps sp:=by rw[C.P,C.w,C.K,C.mg,C.b];exact Q.p
theorem MA{g:List D->Option (List D)}[C:Cz X B k][Q:Df B j x (spN B.G g)](hj:bZ j k=true):ZN X B (.Call (.Name x p) [] [] pos) (oN g n6):=by obtain⟨ps,q⟩:=dz hg hd (X:=X) (Q:=Q);exact⟨FW q (C.r.mono (cE.mp hj)) hg hd⟩
include hs hl
theorem MB{g:List D->Option D}[C:Cz X B k][Q:Df B j x (spF B.G g)](ha:ZA X B (e::es) a)(hj:bZ j k=true):ZE X B (.Call (.Name x p) (e::es) [] pos) (nv g a):=by obtain⟨ps,q⟩:=dz hg hd (X:=X) (Q:=Q);exact⟨LU q (C.r.mono (cE.mp hj)) ha.p hg hd hs hl⟩
theorem MC{g:List D->Option (List D)}[C:Cz X B k][Q:Df B j x (spN B.G g)](ha:ZA X B (e::es) a)(hj:bZ j k=true):ZN X B (.Call (.Name x p) (e::es) [] pos) (oN g a):=by obtain⟨ps,q⟩:=dz hg hd (X:=X) (Q:=Q);exact⟨IT q (C.r.mono (cE.mp hj)) ha.p hg hd hs hl⟩
theorem MD{g:List D->List D->Option (D×List D)}[C:Cz X B k][Q:Df B j x (spM B.G g)](hv:ZV X e i)(ha:ZA X B es a)(hj:bZ j k=true):ZE X B (.Call (.Name x p) (e::es) [] pos) (p7 g i a):=by obtain⟨ps,q⟩:=dz hg hd (X:=X) (Q:=Q);exact⟨IU q (C.r.mono (cE.mp hj)) hv.p ha.p hg hd hs hl⟩
theorem ME{g:List D->List D->Option (D×List D)}[C:Cz X B k][Q:Df B j x (spL B.G g)](ha:ZM X B (e::es) i a)(hj:bZ j k=true):ZE X B (.Call (.Name x p) (e::es) [] pos) (yh g i a):=by obtain⟨ps,q⟩:=dz hg hd (X:=X) (Q:=Q);exact⟨Jo q (C.r.mono (cE.mp hj)) ha.p hg hd hs hl⟩
theorem MF{g:List D->Option (List Str×List D)}{dds:List D}[C:Cz X B k][Q:Kf B j x c0 g dds](ha:ZA X B (e::es) a)(hj:bZ (j+1) k=true):ZE X B (.Call (.Name x p) (e::es) [] pos) (nU c0 (λds=>g (ds++dds)) a):=by obtain⟨ps,q⟩:=Q.p;exact⟨IV (by rw[C.P,C.w,C.mg,C.b];exact q) (λH=>Kc Q.f) (C.r.mono (cE.mp hj)) ha.p C.K hg hd hs hl⟩
end
theorem mz{g:Nat->Option (List D->Option D)}[C:Cz X B k][Q:Mf B j m g]:∀c h,g c=some h->wq B.G X.prog X.w X.mg X.base j m c h:=by rw[C.P,C.w,C.mg,C.b];exact Q.p
theorem MG{g:Nat->Option (List D->Option D)}{pl:Sem Bool}[C:Cz X B k][Q:Mf B j m g](ho:ZE X B o f)(hj:bZ j k=true)
  (ht:eval (.Call (.Attribute o m apos) [] [] pos) X.env=(do
   let ov<-eval o X.env
   standAt apos.atName
   let (f,first)<-holding [ov] (getMethod ov m pl)
   callWith pos f first (aX pos (aq [] X.env)) (backToKw pos (df [] X.env)))):ZE X B (.Call (.Attribute o m apos) [] [] pos) (qo g m f n6):=⟨B2 mz (C.r.mono (cE.mp hj)) ho.p C.K ht⟩
theorem MH{g:Nat->Option (List D->Option D)}{pl:Sem Bool}[C:Cz X B k][Q:Mf B j m g](ho:ZE X B o f)(ha:ZA X B (e::es) a)(hj:bZ j k=true)(hs:Sz X e es)(hl:Lz X pos es)
  (ht:eval (.Call (.Attribute o m apos) (e::es) [] pos) X.env=(do
   let ov<-eval o X.env
   standAt apos.atName
   let (f,first)<-holding [ov] (getMethod ov m pl)
   callWith pos f first (aX pos (aq (e::es) X.env)) (backToKw pos (df [] X.env)))):ZE X B (.Call (.Attribute o m apos) (e::es) [] pos) (qo g m f a):=⟨Er mz (C.r.mono (cE.mp hj)) ho.p ha.p C.K hs hl ht⟩
section
variable(hg:Gz X x)(hd:Nz x)(hs:S1 X e)
include hg hd hs
theorem cbI{r:List V->Hp->VK->Prop}{t:TA}[C:Cz X B k][N:Nb B x](hc:pD X (.builtin id) r)(hv:cO x=some (.builtin id))(ha:PA X [e] t):PE X (.Call (.Name x p) [e] [] pos) (tCB r t):=by simp only[aB,bE,cq]at hd;exact tZ hc hg (C.mg▸N.p) hv ha hd.1 hd.2 hs rfl
theorem ctI{r:List V->Hp->VK->Prop}{t:TA}[C:Cz X B k][N:Nb B x](hc:pD X (.type T) r)(hv:cO x=some (.type T))(ha:PA X [e] t):PE X (.Call (.Name x p) [e] [] pos) (tCB r t):=by simp only[aB,bE,cq]at hd;exact D2 hc hg (C.mg▸N.p) hv ha hd.1 hd.2 hs rfl
theorem MI{g:D->Option D}[Q:B1 x g][C:Cz X B k][N:Nb B x](ha:ZE X B e f):ZE X B (.Call (.Name x p) [e] [] pos) (c1 g f):=by obtain⟨id,r,h1,h2,h3⟩:=Q.p X B.G C.K C.c;exact⟨J8 h2 (cbI hg hd hs h1 h3 (pE ha.p rq hs))⟩
end
section
variable(hs:S1 X e)
include hs
theorem MJ [C:Cz X B k][N:Nb B "list"](hg:Gz X "list")(ha:ZE X B e f):ZN X B (.Call (.Name "list" p) [e] [] pos) (uQ f):=⟨FR (ctI hg (by decide) hs (BZ C.K) kT (pE ha.p rq hs))⟩
theorem ML [C:Cz X B k][N:Nb B "range"](hg:Gz X "range")(ha:ZE X B e f):ZI X B tg (.Call (.Name "range" p) [e] [] pos) (iR1 f):=⟨BX (DS hg (C.mg▸N.p) (pE ha.p rq hs) hs)⟩
end
section
variable(hi:Gz X "isinstance")(hg:Gz X x)(hs:aq [e,.Name x p2] X.env=[(false,eval e X.env),(false,eval (.Name x p2) X.env)])(hs':S1 X (.Name x p2))
include hi hg hs hs'
theorem MM [Q:KtC x T][C:Cz X B k][N:Nb B "isinstance"][N':Nb B x](ha:ZE X B e f)(hd:Nz x):ZE X B (.Call (.Name "isinstance" p) [e,.Name x p2] [] pos) (c1 (qB (pG T)) f):=by
 simp only[aB,bE,cq]at hd;refine⟨CW (c:=.b T) (tZ (zg (.b T) (Q.p.1 X B.G) FZ C.K) hi (C.mg▸N.p) kn (qg ha.p (qg (Hn (v:=.ty T) hg (C.mg▸N'.p) Q.p.2 rfl hd.1 hd.2) sX ?_) ?_) (by decide) (by decide) ?_ ?_)⟩
 ·exact hs'
 ·rw[hs,hs']
 ·rw[hs,hs']
 ·rw[hs'];rfl
theorem MN{t:Ty->Option Bool}[Q:Ic B x t][C:Cz X B k][N:Nb B "isinstance"](ha:ZE X B e f)(hd:Dz x):ZE X B (.Call (.Name "isinstance" p) [e,.Name x p2] [] pos) (c1 (qB t) f):=by
 obtain⟨c,q1,q2⟩:=Q.p;refine⟨CW (c:=.c c) (tZ (B6 q1 C.K) hi (C.mg▸N.p) kn (qg ha.p (qg (Cs (v:=.ref (B.G.ca c)) hg (C.mg▸q2) rfl hd) sX ?_) ?_) (by decide) (by decide) ?_ ?_)⟩
 ·exact hs'
 ·rw[hs,hs']
 ·rw[hs,hs']
 ·rw[hs'];rfl
end
section
variable(hb:Az X o m)(hl:Ez apos pos)(hs:S1 X e)
include hb hl hs
theorem bmI{r:V->List V->Hp->VK->Prop}{to:TE}{t:TA}[C:Cz X B k](pa:i5 T)(slot:Slot T m id)(hty:typeOf (.builtin id)=pure (.type "method_descriptor"))(hm:MtR X id r)(ho:PE X o to)(ha:PA X [e] t):PE X (.Call (.Attribute o m apos) [e] [] pos) (tBM B.G.K T r to t):=
 Fj B.G.K pa slot hty hm ho ha hb (by rw[hs];rfl) hl hs rfl C.K
end
section
variable(h:sees X i x=true)(hb:Az X (.Name x p) m)(hl:Ez apos pos)(hs:S1 X e)
include h hb hl hs
theorem MO [C:Cz X B k](hm:m="append")(ha:ZE X B e f):ZE X B (.Call (.Attribute (.Name x p) m apos) [e] [] pos) (uM i f):=by subst hm;exact⟨Ei (bmI hb hl hs gb ic jO v7 (pvI h) (pE ha.p rq hs))⟩
theorem MP [C:Cz X B k](hm:m="extend")(ha:ZE X B e f):ZE X B (.Call (.Attribute (.Name x p) m apos) [e] [] pos) (uf i f):=by subst hm;exact⟨B8 (bmI hb hl hs gb f9 jP (C.K▸B7) (pvI h) (qg ha.p sX hs))⟩
end
theorem MQ{xs:List Str}[C:Cz X B k][Q:Af B c0 xs](hx:xs.contains m=true)(h:sees X i x=true)(hv:ZE X B e f)(hs:Wz X e (.Attribute (.Name x p) m apos) pos):ZS X B (.Assign [.Attribute (.Name x p) m apos] e pos) (oa c0 i m f):=⟨IF (K3 (pvI h) hv.p hs) (by obtain⟨i,_,e⟩:=hX (ju.mp hx);exact C.K▸Q.p.at i (bj.mpr ⟨_,e⟩))⟩
theorem MR [C:Cz X B k](h:sees X i x=true)(hk:ZE X B e' f')(hv:ZE X B e f)(hs:Wz X e (.Subscript (.Name x p) e' apos) pos):ZS X B (.Assign [.Subscript (.Name x p) e' apos] e pos) (q8 i f' f):=⟨F4 (HP (J1 C.r) (pvI h) hk.p hv.p hs)⟩
theorem MS{n:Nat}[Q:Ij B n](h:ZE X B e f):ZE X B e (uS n f):=⟨Jh Q.p h.p⟩
theorem MU{lo hi:Option Expr}{fl fh:FO}[C:Cz X B k](he:ZE X B e f)(hl:ZO X B lo fl)(hh:ZO X B hi fh):ZN X B (.Subscript e (.Slice lo hi none p) pos) (vc f fl fh):=⟨B4 (E6 (P8 C.K) he.p hl.p hh.p)⟩
theorem MV [C:Cz X B k](h:ZE X B e f):ZI X B tg e (iL f):=⟨A6 (AX B.G.K h.p C.K)⟩
theorem MW [C:Cz X B k](h:ZE X B e f):ZI X B tg e (iT f):=⟨IL (HW B.G.K h.p C.K)⟩
theorem MX(h:ZE X B e f):ZI X B tg e (iD f):=⟨Gb (Jf h.p)⟩
theorem MY(h:ZE X B e f):ZI X B tg e (iS f):=⟨Ja (Le h.p)⟩
section
variable{gg:FG}{gs:List D->List Sl->Option (List Sl)}
theorem Jv:ZH X B [] n wN:=⟨Ip Hr⟩
theorem Jw(h1:ZG X B e n gg)(h2:ZH X B es n gs)(hs:(bR (e::es) X.env).map (·.2)=assign e X.env::(bR es X.env).map (·.2)):ZH X B (e::es) n (qb gg gs):=⟨Fv (ES h1.p h2.p hs)⟩
theorem Jx{n' k':Nat}[C:Cz X B k](h:ZH X B es n gs)(hn:(bR es X.env).length=n')(ht:(bR es X.env).findIdx? (·.1)=none):ZG X B (.Tuple es k' pos) n (gT gs n'):=⟨Iq (HX B.G.K C.c h.p hn ht C.K)⟩
end
def tgN:Expr->List Str
 |.Name x _=>[x]
 |.Tuple es _ _=>es.filterMap λe=>match e with|.Name x _=>some x|_=>none
 |_=>[]
def cpN(X:Cx)(tg:Expr)(cap:List Nat):List Str:=tgN tg++cap.map λj=>X.N.getD j ""
instance inCz [C:Cz X B k]{N':List Str}{sc:bT}{cl:List (Str×Addr)}{A:Addr}{fp:List Addr}{s:ae}{H:Hp}:Cz (oT X N' sc cl A fp s H) B k:=⟨C.P,C.w,C.K,C.mg,C.b,C.c,C.r⟩
def MZ(X:Cx)(N':List Str)(sc:bT)(n:Nat)(cap:List Nat):Bool:=decide cap.Nodup&&decide (sc.kind=.function)&&(sc.names.all λy=>y.2 != .cell)&&(sc.names.all λy=>y.2 != .local||sc.names.lookup y.1==some .local)&&(sc.names.all λy=>y.2 != .free||(X.env.kindOf y.1==some .cell||X.env.kindOf y.1==some .free))&&decide (N'.length=n+cap.length)&&decide ((N'.drop n).map some=cap.map λj=>X.N[j]?)&&((N'.drop n).all λx=>sc.names.lookup x==some .free)
section
variable{sc:bT}{cap:List Nat}{ifs:List Expr}{gg:FG}{ft:FT}{s:FA}
 (h0:MZ X (cpN X tg cap) sc n cap=true) (hs:Fz X it) (hi:ZI X B tg it s)
 (h1:∀(cl:List (Str×Addr)) (A:Addr) (fp:List Addr) (s:ae) (H:Hp),ZG (oT X (cpN X tg cap) sc cl A fp s H) B tg n gg)
 (h2:∀(cl:List (Str×Addr)) (A:Addr) (fp:List Addr) (s:ae) (H:Hp),ZF (oT X (cpN X tg cap) sc cl A fp s H) B ifs ft)
 (h3:∀(cl:List (Str×Addr)) (A:Addr) (fp:List Addr) (s:ae) (H:Hp),ZE (oT X (cpN X tg cap) sc cl A fp s H) B e f)
include h0 hs hi h1 h2 h3
theorem M0 [C:Cz X B k]:ZN X B (.ListComp e [⟨tg,it,ifs,0⟩] sc pos) (nJ n cap s gg ft f):=by unfold MZ at h0;simp only[aB,bE]at h0;obtain⟨⟨⟨⟨⟨⟨⟨a1,a2⟩,a3⟩,a4⟩,a5⟩,a6⟩,a7⟩,a8⟩:=h0;exact⟨FI a1 (HV (N':=cpN X tg cap) C.c hi.p (λcl A fp s H=>⟨(h1 cl A fp s H).p,(h2 cl A fp s H).p,(h3 cl A fp s H).p⟩) a2 a3 a4 a5 a6 a7 a8 λx=>congrFun hs x)⟩
theorem cpW [C:Cz X B k](h:sets X i x=true)(hw:bX (.ListComp e [⟨tg,it,ifs,0⟩] sc pos) (some (.Name x p)) apos.line X.env=pure true):PS X (.Assign [.Name x p] (.ListComp e [⟨tg,it,ifs,0⟩] sc pos) apos) (uL (wM (tFI B.G s) (tFG B.G n gg) (tFT B.G ft) (tF B.G f) n cap) (r6 i))/\cap.Nodup:=by unfold MZ at h0;simp only[aB,bE]at h0;obtain⟨⟨⟨⟨⟨⟨⟨a1,a2⟩,a3⟩,a4⟩,a5⟩,a6⟩,a7⟩,a8⟩:=h0;obtain⟨b1,b2,b3,b4⟩:=Ak h;exact⟨IY (N':=cpN X tg cap) C.c b1 b2 b3 hi.p (λcl A fp s H=>⟨(h1 cl A fp s H).p,(h2 cl A fp s H).p,(h3 cl A fp s H).p⟩) a2 a3 a4 a5 a6 a7 a8 (λx=>congrFun hs x) hw b4,a1⟩
theorem M1 [C:Cz X B k](h:sets X i x=true)(hw:bX (.ListComp e [⟨tg,it,ifs,0⟩] sc pos) (some (.Name x p)) apos.line X.env=pure true):ZS X B (.Assign [.Name x p] (.ListComp e [⟨tg,it,ifs,0⟩] sc pos) apos) (ot i (cL (nJ n cap s gg ft f))):=by have z:=cpW (k:=k) h0 hs hi h1 h2 h3 h hw;exact⟨F1 z.2 z.1⟩
theorem M3 [C:Cz X B k](h:sets X i x=true)(hw:bX (.ListComp e [⟨tg,it,ifs,0⟩] sc pos) (some (.Name x p)) apos.line X.env=pure true):ZS X B (.Assign [.Name x p] (.ListComp e [⟨tg,it,ifs,0⟩] sc pos) apos) (qy i (nJ n cap s gg ft f)):=by have z:=cpW (k:=k) h0 hs hi h1 h2 h3 h hw;exact⟨Et z.2 z.1⟩
end
section
variable{st:Stmt}{sts:List Stmt}{fs fs':FS}{ft:FT}{a':FA}{z1:Nat}
theorem O5(ha:ZE X B e f)(hr:ZA X B es a)(hs:Sz X e es):ZA X B (e::es) (aCons f a):=⟨pE ha.p hr.p hs⟩
theorem O6:ZA X B [] n6:=⟨rq⟩
theorem M4(ha:ZE X B e f)(hr:ZM X B es i a)(hs:Sz X e es):ZM X B (e::es) i (aCons f a):=⟨EB ha.p hr.p hs⟩
theorem M5(h:sees X i x=true)(hs:S1 X (.Name x p)):ZM X B [.Name x p] i n6:=⟨Gj (pvI h) hs⟩
theorem M6(h:sees X i x=true):ZV X (.Name x p) i:=⟨pvI h⟩
theorem M7(h:ZN X B e a):ZE X B e (cL a):=⟨Lr h.p⟩
theorem O7{y:Str}:ZE X B (.Constant (.str y) j pos) (cC (.str y)):=⟨Lj⟩
theorem O8{y:Int}:ZE X B (.Constant (.int y) j pos) (cC (.int y)):=⟨Li⟩
theorem Pa{y:Bool}:ZE X B (.Constant (.bool y) j pos) (cC (.bl y)):=⟨OC⟩
theorem Pb:ZE X B (.Constant .none j pos) (cC .non):=⟨Lk⟩
theorem Dj(h1:ZS X B st fs)(h2:ZB X B sts fs'):ZB X B (st::sts) (nz fs fs'):=⟨Fp h1.p h2.p⟩
theorem Pc(h1:ZS X B st fs):ZB X B [st] fs:=⟨Im h1.p⟩
theorem Pd:ZB X B [] oY:=⟨Il⟩
theorem M8(h:ZE X B e f):ZS X B (.Return (some e) pos) (oK f):=⟨Io h.p⟩
theorem M9(h:ZN X B e a):ZS X B (.Return (some e) pos) (pP a):=⟨Fq h.p⟩
theorem Na(h:ZE X B e f)(hs:bX e none pos.line X.env=pure false):ZS X B (.Expr e pos) (pQ f):=⟨Fs h.p hs⟩
theorem Nc(h:ZT X B e ft)(h1:ZB X B sts fs){sts':List Stmt}(h2:ZB X B sts' fs'):ZS X B (.If e sts sts' pos) (sIf ft fs fs'):=⟨Ls h.p h1.p h2.p⟩
theorem Nd:ZE X B e yf:=⟨F5⟩
theorem Nf(h:ZA X B es a):ZN X B (.List es pos) (nP a):=⟨Ii h.p⟩
theorem Ng(h:ZA X B es a):ZE X B (.Tuple es z1 pos) (om a):=⟨Lq h.p⟩
theorem Nh(ha:ZE X B e f)(hb:ZE X B e' f'):ZN X B (.BinOp e .Add e' pos) (o4 f f'):=⟨IQ ha.p hb.p⟩
theorem Ni [C:Cz X B k](ha:ZE X B e f)(hb:ZE X B e' f'):ZE X B (.BinOp e .Add e' pos) (wR f f'):=⟨Jb ha.p hb.p C.K⟩
theorem Nj(ha:ZE X B e f)(hb:ZE X B (.BoolOp .And (e'::es) pos) f'):ZE X B (.BoolOp .And (e::e'::es) pos) (pM f f'):=⟨Lo ha.p hb.p⟩
theorem Nk(ha:ZE X B e f)(hb:ZE X B (.BoolOp .Or (e'::es) pos) f'):ZE X B (.BoolOp .Or (e::e'::es) pos) (cOr f f'):=⟨OG ha.p hb.p⟩
theorem Nl{op}(ha:ZE X B e f):ZE X B (.BoolOp op [e] pos) f:=⟨Ln ha.p⟩
theorem Nm(ha:ZE X B e f):ZE X B (.UnaryOp .Not e pos) (yR f):=⟨Lp ha.p⟩
theorem Np(ha:ZT X B e ft):ZT X B (.UnaryOp .Not e pos) (sd ft):=⟨Ie ha.p⟩
theorem Nq(h:ZT X B o ft)(ha:ZE X B e f)(hb:ZE X B e' f'):ZE X B (.IfExp o e e' pos) (cIf ft f f'):=⟨OH h.p ha.p hb.p⟩
theorem Pe(h:ZT X B e ft):ZF X B [e] ft:=⟨HU h.p⟩
theorem Pf:ZF X B [] oh:=⟨FJ⟩
theorem Nr(h:ZE X B e f):ZE X B e (tG f):=⟨LS h.p⟩
theorem Nt(h:ZT X B e ft):ZT X B e (rp ft):=⟨IR h.p⟩
theorem Nu(h:ZE X B e f):ZO X B (some e) (oAt f):=⟨L1 h.p⟩
theorem Nv:ZO X B none oNo:=⟨L0⟩
theorem Nw(ha:ZT X B e ft)(hb:ZW X B (.BoolOp .Or (e'::es) pos) fu):ZW X B (.BoolOp .Or (e::e'::es) pos) (z5 ft fu):=⟨Fm ha.p hb.p⟩
theorem Nx(h:ZT X B e ft):ZW X B (.BoolOp .Or [e] pos) ft:=⟨Ig h.p⟩
theorem Ny(h:ZT X B e ft):ZW X B (.BoolOp .And [e] pos) ft:=⟨Fl h.p⟩
end
theorem NA{body:List Stmt}{s:FA}{gg:FG}{b:FS}[C:Cz X B k](hp:PassesOwn (model X.prog X.w) X.A X.env X.xe)(hn:X.N.length=n)(hi:ZI X B tg it s)(hg:ZG X B tg n gg)(hb:ZB X B body b)(hs:Fz X it):ZS X B (.For tg it body [] pos) (sI s gg b):=⟨IM (EV hp C.c hi.p hg.p hb.p λx=>congrFun hs x)⟩
end
end L4
namespace L4
open PySem PySem.Spec PyProof.Rows L2 L3
open PySem.W (fnOf)
def nmO(st:Stmt):List Str:=(nG st).names.filterMap λy=>match y.2 with|.local=>some y.1|.cell=>some y.1|_=>none
def psO(st:Stmt):List Str:=(qv st).args.map (·.arg)
def okO(N ps:List Str)(st:Stmt)(np n:Nat):Bool:=decide ((nG st).kind=.function)&&(nG st).isCoroutine==false&&(nG st).isGenerator==false&&decide N.Nodup&&decide (N.take ps.length=ps)&&(ps.all λx=>match (nG st).names.lookup x with|some .local=>true|some .cell=>true|_=>false)&&((nG st).names.all λy=>y.2 != .free)&&decide (ps.length=np)&&decide (N.length=n)
theorem okk{N ps:List Str}{st:Stmt}{np n:Nat}(h:okO N ps st np n=true):oX N ps (nG st)/\ps.length=np/\N.length=n:=by
 unfold okO at h;simp only[aB,bE,beq_iff_eq]at h;obtain⟨⟨⟨⟨⟨⟨⟨⟨h1,h2⟩,h3⟩,h4⟩,h5⟩,h6⟩,h7⟩,h8⟩,h9⟩:=h;refine⟨⟨h1,h2,h3,h4,h5,λx hx=>?_,λy hy e=>?_⟩,h8,h9⟩
 ·have z:=aK.mp h6 x hx;split at z
  ·rename_i e;exact .inl e
  ·rename_i e;exact .inr e
  ·cases z
 ·have z:=aK.mp h7 y hy;rw[e]at z;exact ak z (by decide)
section
variable{B:Bz}[Y:Yb B]{x m qual:Str}{st s0:Stmt}{l:List Stmt}{k c np n:Nat}{b:FS}{p:Str}{ps xs:List Str}{N:List Str}
abbrev Bdz(B:Bz)(N:List Str)(qual:Str)(st:Stmt)(l:List Stmt)(k:Nat)(b:FS):Prop:=∀{f:Addr} {cdv:aa} {A:av} {outer:List Env} {s:ae} {H:Hp} {E:XK} [Cz (tR B.P B.w B.G.K B.mg B.base N qual st f cdv A outer s H E) B k],ZB (tR B.P B.w B.G.K B.mg B.base N qual st f cdv A outer s H E) B l b
omit Y in
theorem Bdz.ok(h:Bdz B N qual st l k b)(hl:nV st=l):Bdy B.P B.w B.G.K B.mg B.base N qual st k (tFS B.G b):=λf cdv A outer s H E hr=>by subst hl;exact(@h f cdv A outer s H E ⟨rfl,rfl,rfl,rfl,rfl,rfl,hr⟩).p
theorem gF4{g:List D->Option D}(hg:g=fnD np n b)(q:GD B.G.K x st)(hl:nV st=s0::l)(body:Bdz B (nmO st) x st (s0::l) k b)(S:okO (nmO st) (psO st) st np n=true:=by kernel_rfl)(bd:Bds x x st (psO st):=by (repeat intro _);rfl):Df B (k+1) x (spF B.G g):=
 ⟨_,gF hg Y.y q (okk S).1 (body.ok hl) (okk S).2.1 (okk S).2.2 bd⟩
theorem gN4{g:List D->Option (List D)}(hg:g=fnN np n b)(q:GD B.G.K x st)(hl:nV st=s0::l)(body:Bdz B (nmO st) x st (s0::l) k b)(S:okO (nmO st) (psO st) st np n=true:=by kernel_rfl)(bd:Bds x x st (psO st):=by (repeat intro _);rfl):Df B (k+1) x (spN B.G g):=
 ⟨_,gN' hg Y.y q (okk S).1 (body.ok hl) (okk S).2.1 (okk S).2.2 bd⟩
theorem gM4{g:List D->List D->Option (D×List D)}(hg:g=fnM np n b)(q:GD B.G.K x st)(hl:nV st=s0::l)(hp:psO st=p::ps)(body:Bdz B (nmO st) x st (s0::l) k b)(S:okO (nmO st) (p::ps) st (np+1) n=true:=by kernel_rfl)(bd:Bds x x st (p::ps):=by (repeat intro _);rfl):Df B (k+1) x (spM B.G g):=
 ⟨_,gM hg Y.y q (okk S).1 (body.ok hl) (eR (okk S).2.1) (okk S).2.2 bd⟩
theorem hF4{g:List D->Option D}(C:CF B.G.K (B.G.ca c) xs)(hg:g=fnD np n b)(q:GM B.G.K (B.G.ca c) m qual st)(hl:nV st=s0::l)(body:Bdz B (nmO st) qual st (s0::l) k b)(S:okO (nmO st) (psO st) st np n=true:=by kernel_rfl)(bd:Bds m qual st (psO st):=by (repeat intro _);rfl):wq B.G B.P B.w B.mg B.base (k+1) m c g:=by obtain⟨f,fd,a,i,F⟩:=q;exact⟨f,fd,_,C.ci.cl,⟨a,i,F.kp⟩,bd.ok F,FX hg (okk S).2.1 (okk S).2.2 F (okk S).1 (body.ok hl f)⟩
theorem gI4{g:List D->Option (List Str×List D)}(C:CF B.G.K (B.G.ca c) xs)(a:eZ B.G.K aJ x=some (some (.ref (B.G.ca c))))(hg:g=fnI c np n b)(q:GM B.G.K (B.G.ca c) "__init__" qual st)(hl:nV st=s0::l)(hp:psO st=p::ps)(body:Bdz B (nmO st) qual st (s0::l) k b)(S:okO (nmO st) (p::ps) st (np+1) n=true:=by kernel_rfl)(bd:Bds "__init__" qual st (p::ps):=by (repeat intro _);rfl):Kf B (k+1) x c g []:=
 ⟨⟨_,gI hg Y.y C a q (okk S).1 (body.ok hl) (eR (okk S).2.1) (okk S).2.2 bd⟩,rfl⟩
theorem gJ4{g:List D->Option (List Str×List D)}{dds:List D}(C:CF B.G.K (B.G.ca c) xs)(a:eZ B.G.K aJ x=some (some (.ref (B.G.ca c))))(hg:g=fnI c np n b)(q:GJ B.G.K (B.G.ca c) qual st (dds.map vD))(hl:nV st=s0::l)(hp:psO st=p::ps)(body:Bdz B (nmO st) qual st (s0::l) k b)(j:Nat)(S:okO (nmO st) (p::ps) st (np+1) n=true:=by kernel_rfl)(hf:dds.all pR=true:=by rfl)
  (bd:Cg (dds.map vD).length λdl=>Cg ((p::ps).length - ((dds.map vD).drop j).length) λus=>∀(T:Addr) (kV doc pm:aa) (an:Option Addr) (cdv ct:aa),∃k,bindArgs (fnOf "__init__" qual (qv st) (nV st) (nG st) (.ref T) kV doc pm an cdv ct) ⟨us,[]⟩=seqItems? (.ref T)>>=k/\k (some dl.toArray)=pure ((p::ps).zip (us++dl.drop j)):=by (repeat intro _);exact⟨_,rfl,rfl⟩):Kf B (k+1) x c g (dds.drop j):=
 ⟨⟨_,by rw[iH];exact gJ hg Y.y C a q (okk S).1 (body.ok hl) j (eR (okk S).2.1) (okk S).2.2 bd⟩,by
  rw[aK]at hf ⊢;exact λd h=>hf d (eC h)⟩
theorem Jy(n:Nat)(ca:Nat->Addr):∀k,k<n->((aV n).map ca).getD k 0=ca k:=λk h=>by rw[fW,aZ,hJ h];rfl
theorem Qa{n:Nat}{ca:Nat->Addr}(h:decide ((aV n).map ca).Nodup=true):∀j k,j<n->k<n->ca j=ca k->j=k:=λj k hj hk e=>by rw[<-Jy n ca j hj,<- Jy n ca k hk]at e;exact Md (bK h) (by simpa using hj) (by simpa using hk) e
def EE:Nat->(Nat->Prop)->Prop
 |0,_=>True
 |n+1,Q=>Q 0/\EE n λk=>Q (k+1)
theorem EE.at:∀{n:Nat} {Q:Nat->Prop},EE n Q->∀k,k<n->Q k
 |_+1,_,h,0,_=>h.1
 |_+1,_,h,k+1,hk=>EE.at (Q:=λk=>_) h.2 k (Nat.lt_of_succ_lt_succ hk)
end
section
variable{X:Cx}{B:Bz}{k j i n:Nat}{x y:Str}{e e' tg:Expr}{es:List Expr}{p p2 p3 pos apos:Pos}{f f':FE}{a:FA}{st:Stmt}{sts:List Stmt}{fs fs':FS}{ft:FT}
theorem NB{gg:FG}(hn:X.N.length=n)(he:ZE X B e f)(hg:ZG X B tg n gg)(hs:swapsWithSole [tg] e pos.line X.env=pure false)(hw:swappedStores [tg] e X.env=pure none)(h1:(bR [tg] X.env).map (·.2)=[assign tg X.env]):ZS X B (.Assign [tg] e pos) (xW f gg):=⟨Ir (BG he.p hg.p hs hw h1)⟩
theorem NC [C:Cz X B k][N:Nb B "int"](hg:Gz X "int")(hs:S1 X e)(ha:ZE X B e f):ZE X B (.Call (.Name "int" p) [e] [] pos) (c1 LP f):=⟨J8 LQ (ctI hg (by decide) hs DX lq (pE ha.p rq hs))⟩
theorem ND(ha:ZE X B e f):ZE X B (.UnaryOp .USub e pos) (c1 zp f):=⟨Me ha.p⟩
end
end L4
namespace L4
open PySem PySem.Spec PyProof.Rows L2 L3
theorem Bq{α:Type}[DecidableEq α]:∀{l L:List α},l.Nodup->(∀x∈l,x∈L)->l.length<=L.length
 |[],L,_,_=>bW _
 |a::l,L,nd,h=>by have h1:=h a aE;have nd':=cY.mp nd;have:=Bq (l:=l) (L:=L.erase a) nd'.2 λx hx=>(List.mem_erase_of_ne (λe:x=a=>nd'.1 (by rw[<-e];exact hx))).mpr (h x (aG _ hx));rw[List.length_erase_of_mem h1]at this;have:=List.length_pos_of_mem h1;rw[aD];omega
structure Tb(t:bp)(m n:Nat):Prop where
 mask:t.mask=m
 dm:t.dummies=#[]
 pl:t.place.size=n
variable{i q:Nat}
section
variable{t:bp}{m n:Nat}
theorem Tb.slot(T:Tb t m n)(j:Nat):(∃i,t.slot j=.live i/\t.place[i]?=some j)\/t.slot j=.empty:=by
 unfold kK;by_cases h:(t.place[bu t.place j]?==some j)=true
 ·left;simp only[h,if_true];exact⟨_,rfl,eU h⟩
 ·right;rw[j9]at h;rw[T.dm];simp[h,kU]
theorem Tb.free(T:Tb t m n)(h:n<=m):∃r,r<=m/\t.slot r=.empty:=by
 apply je;intro no;have:(aV (m+1)).length<=t.place.toList.length:=Bq ka λr hr=>by
  rcases T.slot r with ⟨i,_,e⟩|e
  ·rw[<-bI]at e;exact bz e
  ·exact ak ⟨r,by have:=bH.mp hr;omega,e⟩ no
 rw[cW,bP,T.pl]at this;omega
def Emp(t:bp):Nat->cf->Prop
 |0,_=>False
 |f+1,p=>t.slot p.j=.empty\/Emp t f (t.advance p)
theorem Emp.mono:∀{f f':Nat} {p:cf},Emp t f p->f<=f'->Emp t f' p
 |0,_,_,h,_=>h.elim
 |f+1,0,_,_,h=>ak h (by omega)
 |f+1,f'+1,p,h,hl=>h.imp id λh=>h.mono (by omega)
def rs(m i q:Nat):cf:=⟨i,bL m i - i,i,q,none⟩
theorem NF(m i:Nat):bL m i - i<=9:=by unfold bL;split<;>omega
theorem Emp.run(T:Tb t m n){f:Nat}(h:Emp t f (rs m ((i * 5+1+q / 32) % (m+1)) (q / 32))):∀(k j:Nat),Emp t (f+k+1) ⟨j,k,i,q,none⟩
 |0,j=>.inr (by
   have e:t.advance ⟨j,0,i,q,none⟩=rs m ((i * 5+1+q / 32) % (m+1)) (q / 32):=by unfold eF kM;rw[T.mask];rfl
   rw[e];exact h)
 |k+1,j=>.inr (by
   have e:t.advance ⟨j,k+1,i,q,none⟩=⟨j+1,k,i,q,none⟩:=by unfold eF;rw[ag (c9 k)];rfl
   rw[e];exact Emp.run T h k (j+1))
theorem Emp.leap(T:Tb t m n){f:Nat}(h:Emp t f (rs m ((i * 5+1+q / 32) % (m+1)) (q / 32))):Emp t (f+10) (rs m i q):=
 (Emp.run T h (bL m i - i) i).mono (by have:=NF m i;omega)
def orb(m:Nat):Nat->Nat->List Nat
 |0,_=>[]
 |k+1,i=>i::orb m k ((i * 5+1) % (m+1))
theorem Emp.orb(T:Tb t m n){r:Nat}(hr:t.slot r=.empty):∀(k i:Nat),r∈orb m k i->Emp t (10 * k) (rs m i 0)
 |0,i,h=>by cases h
 |k+1,i,h=>by
  rcases aO.mp h with e|h
  ·exact Emp.mono (f:=1) (.inl (by rw[e]at hr;exact hr)) (by omega)
  ·have:=Emp.leap T (q:=0) (i:=i) (Emp.orb T hr k _ h);exact this.mono (by omega)
theorem Al{p:cf}(h:p.dummy=none):(t.advance p).dummy=none:=by unfold eF;split<;>exact h
end
theorem NG{t:bp}{F F':Nat->Int}{h:Int}(e:∀i,F i=F' i)(g:Nat)(p:cf):cX t F h g p=cX t F' h g p:=by obtain rfl:F=F':=funext e;rfl
variable{Q:Bool->ae->Prop}
section
variable{prog:ar}{w:ao}{A:av}{E:aa->ae->Prop}{s:ae}
theorem Gv{a2:Addr}{k2:List Key}{l:List aa}(h1:∀v∈l,∃k a,v=.ref a/\TK prog w s.heap k a)(h2:TK prog w s.heap k2 a2)(h:Q false s):ah (model prog w) A (searchCouldBeSeen (.ref a2) l) Q E s:=by
 unfold searchCouldBeSeen;refine au ?_;show ah _ _ (forIn l _ _) _ _ s;refine iw _ (λrest r s'=>r=(none,())/\s'=s/\∀v∈rest,∃k a,v=.ref a/\TK prog w s.heap k a) _ ?_ ?_ _ _ ⟨rfl,rfl,h1⟩
 ·rintro v rest r s' ⟨rfl,rfl,hall⟩;obtain⟨k,a1,rfl,h1⟩:=hall v aE;have go:∀v∈rest,∃k a,v=Value.ref a/\TK prog w s'.heap k a:=λu hu'=>hall u (aG _ hu');dsimp only;split
  ·exact aC ⟨rfl,rfl,go⟩
  ·refine au (jv h2 ?_);refine au (jv h1 ?_);refine au (Dc h2 ?_);refine au (Dc h1 ?_);exact aC ⟨rfl,rfl,go⟩
 ·rintro r s' ⟨rfl,rfl,_⟩;exact aC h
end
def Nn(ow:Array (Option Nat))(j:Nat):Prop:=(ow.getD j (some 0)).isNone=true
section
variable{ow:Array (Option Nat)}
def lv(ow:Array (Option Nat)):List (Nat×Nat):=(aV 32).filterMap λj=>(ow.getD j none).map (j,·)
end
def Cz2(m n:Nat):Prop:=(m=7/\n<=4)\/(m=31/\n<=18)\/(m=127/\19<=n/\n<=63)
section
variable{prog:ar}{w:ao}{A:av}{E:aa->ae->Prop}{s:ae}
theorem Gw{x:Str}{ks:List Key}{a:Addr}(hk:TK prog w s.heap (Sum.inr x::ks) a)(h:Q false s):ah (model prog w) A (hashByValue 8 (.ref a)) Q E s:=by
 have hT:=hk.typeIs;obtain⟨o,items,n,ho,_,hd,hi⟩:=hk;unfold hashByValue;refine au (kg hT F.slot_tuple_hash.lookup ?_);show ah _ _ (seqItems? (.ref a)>>=_) _ _ s;refine au (kx ho hd ?_);refine au ?_;show ah _ _ (forIn items _ _) _ _ s;rw[<-jN];generalize items.toList=l at hi ⊢;cases hi with
 |@cons _ v _ vs h1 h2=>
  obtain⟨t,rfl⟩:∃t,v=.str x t:=Dg h1;refine iw _ (λrest r s'=>s'=s/\∃u,rest=.str x t::u) _ ?_ ?_ _ _ ⟨rfl,vs,rfl⟩
  ·rintro v rest r s' ⟨rfl,u,e⟩;cases e;refine au (m:=hashByValue 7 (.str x t)) (aC ?_);exact aC (aC h)
  ·rintro r s' ⟨rfl,u,e⟩;cases e
end
structure yU(h:Heap)(S:Addr)(L:List (List Key×Addr))(led:Bool)(n:Nat)(o:Obj)(es:Array (Int×aa))(ep:Nat)(t:bp):Prop where
 at_:h.get? S=some o
 ex:o.ExactSet
 d:o.data=.set es ep t
 c:∃m,Tb t m n/\Cz2 m n
 led:t.led=led
 pl:0<n->t.plain=false
 p:(es.toList.map dg).Perm (L.map λq=>Value.ref q.2)
variable{led:Bool}{o:Obj}{ep:Nat}
theorem yU.sz{h:Heap}{S:Addr}{L:List (List Key×Addr)}{n:Nat}{es:Array (Int×aa)}{t:bp}(x:yU h S L led n o es ep t):es.size=L.length:=by have:=x.p.length_eq;rw[af,af,bP]at this;exact this
theorem yU.fits{h:Heap}{S:Addr}{L:List (List Key×Addr)}{n:Nat}{es:Array (Int×aa)}{t:bp}(x:yU h S L led n o es ep t)(hl:L.length=n):t.fits es.size=true:=by obtain⟨m,T,c⟩:=x.c;unfold fM iI;rw[x.sz,hl,T.pl,T.dm,T.mask,aB];exact⟨by simp,aH (by unfold Cz2 at c;simp;omega)⟩
end L4
namespace L4
open PySem PySem.Spec PySem.Calls PyProof.Rows PySem.W L2 L3
section
variable{prog:ar}{w:ao}{A:av}{E:aa->ae->Prop}{s:ae}
abbrev TkS(k:List Str):List Key:=k.map Sum.inr
end
section
variable{X:Cx}{G:Bg}{H:Hp}{pins:List (Addr×Obj)}{σ:St}{s:ae}
theorem Dk:∀{ds:List D} {ks:List (List Str)} {xs:List V},ny G H ds xs->wX ds=some ks->∃L:List (List Str×Addr),xs=L.map (λq=>V.ref q.2)/\ks=L.map bq/\∀q∈L,∃p r,q.1=[p,r]/\SqT G.K H q.2 [.str p,.str r]
 |[],ks,xs,r,e=>by cases e;unfold ny at r;subst r;exact⟨[],rfl,rfl,λq hq=>by cases hq⟩
 |d::ds,ks,xs,r,e=>by
  unfold wX at e;cases e1:key2 d with
  |none=>rw[e1]at e;cases e
  |some k=>
   cases e2:wX ds with
   |none=>rw[e1,e2]at e;cases e
   |some ks'=>
    rw[e1,e2]at e;cases e;unfold ny at r;obtain⟨v,r',rfl,q1,q2⟩:=r;obtain⟨L,rfl,rfl,h3⟩:=Dk q2 e2;obtain⟨a,p,q,rfl,rfl,h1⟩:=Gu q1 e1;refine⟨([p,q],a)::L,rfl,rfl,λz hz=>?_⟩;rcases aO.mp hz with rfl|hz
    ·exact⟨p,q,rfl,h1⟩
    ·exact h3 z hz
end
noncomputable abbrev cS(s:Str):FE:=cC (.str s)
noncomputable abbrev a1(e:FE):FA:=aCons e n6
end L4
namespace L4
open PySem PySem.Spec PyProof.Rows L2 L3
mutual
def yn:D->Bool
 |.non=>true
 |.bl _=>true
 |.int _=>true
 |.str _=>true
 |.tup ds=>yp ds
 |.lst ds=>yp ds
 |_=>false
def yp:List D->Bool
 |[]=>true
 |d::ds=>yn d&&yp ds
end
mutual
theorem Rep.but{G:Bg}{H H1:Hp}(e:∀b o,H b=some o->(∀u kvs,o≠HO.frz u (.dK kvs))->H1 b=some o):∀(d:D) (v:V),yn d=true->Rep G H d v->Rep G H1 d v
 |.non,v,_,h=>by unfold Rep at h ⊢;exact h
 |.bl b,v,_,h=>by unfold Rep at h ⊢;exact h
 |.int i,v,_,h=>by unfold Rep at h ⊢;exact h
 |.str x,v,_,h=>by unfold Rep at h ⊢;exact h
 |.tup ds,v,n,h=>by
  unfold Rep at h ⊢;unfold yn at n;obtain⟨a,xs,rfl,h1,h2⟩:=h;refine⟨a,xs,rfl,?_,ny.but e ds xs n h2⟩;rcases h1 with (h|⟨o,h⟩)|h
  ·exact .inl (.inl (e _ _ h λ_ _ z=>nomatch z))
  ·exact .inl (.inr ⟨o,e _ _ h λ_ _ z=>nomatch z⟩)
  ·exact .inr h
 |.lst ds,v,n,h=>by unfold Rep at h ⊢;unfold yn at n;obtain⟨a,xs,rfl,h1,h2⟩:=h;exact⟨a,xs,rfl,e _ _ h1 (λ_ _ z=>nomatch z),ny.but e ds xs n h2⟩
 |.fzl ds,v,n,h=>by unfold yn at n;cases n
 |.obj c ns ds,v,n,h=>by unfold yn at n;cases n
 |.dic ks ds,v,n,h=>by unfold yn at n;cases n
theorem ny.but{G:Bg}{H H1:Hp}(e:∀b o,H b=some o->(∀u kvs,o≠HO.frz u (.dK kvs))->H1 b=some o):∀(ds:List D) (xs:List V),yp ds=true->ny G H ds xs->ny G H1 ds xs
 |[],xs,_,h=>by unfold ny at h ⊢;exact h
 |d::ds,xs,n,h=>by unfold ny at h ⊢;unfold yp at n;rw[aB]at n;obtain⟨v,r,rfl,h1,h2⟩:=h;exact⟨v,r,rfl,Rep.but e d v n.1 h1,ny.but e ds r n.2 h2⟩
end
abbrev Upw(xs:Array Nat):Prop:=xs.toList.Pairwise (· < ·)
variable{i:Nat}
theorem Ci{xs:Array Nat}(h:Upw xs){k a b:Nat}(hik:i<k)(ha:xs[i]?=some a)(hb:xs[k]?=some b):a<b:=by rw[<-bI]at ha hb;obtain⟨h1,rfl⟩:=bj.mp ha;obtain⟨h2,rfl⟩:=bj.mp hb;exact jd.mp h i k h1 h2 hik
theorem yq{xs:Array Nat}(h:Upw xs)(j:Nat):∀(f lo hi:Nat),hi<=xs.size->lo<=hi->hi - lo<=f->(∀i a,i<lo->xs[i]?=some a->a<j)->(∀i a,hi<=i->xs[i]?=some a->j<=a)->
  gf xs j f lo hi<=xs.size/\(∀i a,i<gf xs j f lo hi->xs[i]?=some a->a<j)/\∀i a,gf xs j f lo hi<=i->xs[i]?=some a->j<=a
 |0,lo,hi,h1,h2,h3,h4,h5=>⟨bw h2 h1,h4,λi a hi'=>h5 i a (bw (by omega) (show lo<=i from hi'))⟩
 |f+1,lo,hi,h1,h2,h3,h4,h5=>by
  unfold gf;by_cases hl:lo<hi
  ·rw[ag hl];have hm:(lo+hi) / 2<xs.size:=by omega
   have e:xs[(lo+hi) / 2]?=some xs[(lo+hi) / 2]:=dj hm;have g:xs.getD ((lo+hi) / 2) j=xs[(lo+hi) / 2]:=by rw[dM,e];rfl
   dsimp only;rw[g];by_cases hc:xs[(lo+hi) / 2]<j
   ·rw[ag hc];refine yq h j f _ hi h1 (by omega) (by omega) (λi a hi' ea=>?_) h5;rcases kW i ((lo+hi) / 2)with z|z
    ·exact gw (Ci h z ea e) hc
    ·have:i=(lo+hi) / 2:=by omega
     rw[this,e]at ea;cases ea;exact hc
   ·rw[ai hc];refine yq h j f lo _ (by omega) (by omega) (by omega) h4 λi a hi' ea=>?_;rcases kW ((lo+hi) / 2) i with z|z
    ·have:=Ci h z e ea;omega
    ·have:i=(lo+hi) / 2:=by omega
     rw[this,e]at ea;cases ea;omega
  ·rw[ai hl];exact⟨by omega,h4,λi a hi'=>h5 i a (by omega)⟩
theorem yt{xs:Array Nat}(h:Upw xs)(j:Nat):bu xs j<=xs.size/\(∀i a,i<bu xs j->xs[i]?=some a->a<j)/\∀i a,bu xs j<=i->xs[i]?=some a->j<=a:=
 yq h j xs.size 0 xs.size (aA _) (bW _) (by omega) (λi a z=>ak z (by omega)) λi a z e=>by have:=(fV.mp e).1;omega
variable{j:Nat}
theorem below_at{xs:Array Nat}(h:Upw xs)(e:xs[i]?=some j):bu xs j=i:=by
 obtain⟨h1,h2,h3⟩:=yt h j;rcases jX (bu xs j) i with z|z|z
 ·have hb:bu xs j<xs.size:=gw z (fV.mp e).1;have eb:xs[bu xs j]?=some xs[bu xs j]:=dj hb;have:=h3 _ _ (aA _) eb;have:=Ci h z eb e;omega
 ·exact z
 ·have:=h2 i j z e;omega
theorem Br{α:Type}(xs:Array α)(p:Nat)(x:α):(bV xs p x).toList=xs.toList.take p++x::xs.toList.drop p:=by unfold bV;simp;rw[fZ];rw[cu,bP];exact aA _
theorem sW{α:Type}(xs:Array α){p:Nat}(hp:p<=xs.size)(x:α)(i:Nat):(bV xs p x)[i]?=if i<p then xs[i]? else if i=p then some x else xs[i - 1]?:=by
 have len:(xs.toList.take p).length=p:=by rw[bf,bP];omega
 rw[<-bI,Br,List.getElem?_append,len];by_cases h:i<p
 ·rw[ag h,ag h,List.getElem?_take,ag h,bI]
 ·rw[ai h,ai h];by_cases h2:i=p
  ·subst h2;rw[ag rfl,fP];rfl
  ·rw[ai h2];obtain⟨k,rfl⟩:∃k,i=p+(k+1):=⟨i - p - 1,by omega⟩;rw[show p+(k+1) - p=k+1 by omega,gX,cU,bI];congr 1
theorem NH{xs:Array Nat}(h:Upw xs)(hj:j∉xs.toList):Upw (bV xs (bu xs j) j):=by
 obtain⟨h1,h2,h3⟩:=yt h j;have h':=h;unfold Upw at h' ⊢;rw[Br,jB];rw[<-jw (bu xs j) xs.toList,jB]at h';have lo:∀a∈xs.toList.take (bu xs j),a<j:=λa ha=>by obtain⟨i,hi,rfl⟩:=dP.mp ha;have hi':=hi;rw[bf]at hi';refine h2 i _ (by omega) ?_;rw[<-bI,List.getElem_take,aP]
 have hg:∀a∈xs.toList.drop (bu xs j),j<a:=λa ha=>by
  have ma:a∈xs.toList:=eC ha;obtain⟨i,hi,rfl⟩:=dP.mp ha;have hi':=hi;rw[cu]at hi';have:=h3 (bu xs j+i) (xs.toList.drop (bu xs j))[i] (by omega) (by rw[<-bI,List.getElem_drop,aP]);rcases jQ this with z|z
  ·exact z
  ·exact ak (z▸ma) hj
 refine⟨h'.1,List.pairwise_cons.mpr ⟨hg,h'.2.1⟩,λa ha b hb=>?_⟩;rcases aO.mp hb with rfl|hb
 ·exact lo a ha
 ·exact gw (lo a ha) (hg b hb)
structure Tu(t:bp)(m n:Nat):Prop extends Tb t m n where
 up:Upw t.place
section
variable{t:bp}{m n:Nat}
theorem Tu.live(T:Tu t m n)(e:t.place[i]?=some j):t.slot j=.live i:=by unfold kK;rw[below_at T.up e];dsimp only;rw[e];simp
theorem Tu.emp(T:Tu t m n)(e:t.slot j=.empty):j∉t.place.toList:=λh=>by obtain⟨i,hi,rfl⟩:=dP.mp h;rw[T.live (i:=i) (by rw[<-bI,aP hi])]at e;cases e
def tM(m:Nat):bp:=⟨m,#[],#[],0,false,0,false⟩
def Wy(m:Nat)(O:Nat->Prop)(j:Nat):Nat->cf->Prop
 |0,_=>False
 |f+1,p=>p.j=j\/(O p.j/\Wy m O j f ((tM m).advance p))
theorem Wy.mono{O O':Nat->Prop}(h:∀x,O x->O' x):∀{f f':Nat} {p:cf},Wy m O j f p->f<=f'->Wy m O' j f' p
 |0,_,_,w,_=>w.elim
 |f+1,0,_,_,l=>ak l (by omega)
 |f+1,f'+1,p,w,l=>w.imp id λw=>⟨h _ w.1,w.2.mono h (by omega)⟩
theorem Am(T:Tb t m n)(p:cf):t.advance p=(tM m).advance p:=by obtain⟨rfl,_,_⟩:=T;rfl
theorem Ke(T:Tb t m n)(h:Int):t.probeStart h=(tM m).probeStart h:=by obtain⟨rfl,_,_⟩:=T;rfl
abbrev Oc(t:bp)(x:Nat):Prop:=x∈t.place.toList
theorem NI{x:Nat}(h:Oc t x):∃i:Nat,t.place[i]?=some x:=by obtain⟨i,hi,rfl⟩:=dP.mp h;exact⟨i,by rw[<-bI,aP hi]⟩
theorem Kg(T:Tu t m n)(F:Nat->Int)(h:Int){i0 j0:Nat}(e0:t.place[i0]?=some j0)(h0:F i0=h):∀(f:Nat) (p:cf),p.dummy=none->Wy m (Oc t) j0 f p->∀g,f<=g->
  ∃j i next f',f'<f/\t.slot j=.live i/\t.place[i]?=some j/\F i=h/\cX t F h g p=some (.candidate j i next)/\next.dummy=none/\(i=i0\/Wy m (Oc t) j0 f' next)
 |0,p,_,he,g,_=>he.elim
 |f+1,p,hd,he,0,hg=>ak hg (by omega)
 |f+1,p,hd,he,g+1,hg=>by
  unfold cX;obtain⟨i,ei,hi⟩:∃i:Nat,t.place[i]?=some p.j/\(i=i0\/Wy m (Oc t) j0 f ((tM m).advance p)):=by
   rcases he with e|⟨e,w⟩
   ·exact⟨i0,by rw[e];exact e0,.inl rfl⟩
   ·obtain⟨i,ei⟩:=NI e;exact⟨i,ei,.inr w⟩
  rw[T.live ei];dsimp only;rw[Am T.toTb];by_cases hh:F i=h
  ·exact⟨p.j,i,(tM m).advance p,f,dS f,T.live ei,ei,hh,by rw[ag (by rw[hh];simp)],Al hd,hi⟩
  ·rw[ai (by simpa using hh)];have w:=hi.resolve_left λe=>hh (by rw[e];exact h0);obtain⟨j,i',nx,f',h1,h2⟩:=Kg T F h e0 h0 f _ (Al hd) w g (by omega);exact⟨j,i',nx,f',by omega,h2⟩
theorem Kh(T:Tu t m n)(F:Nat->Int)(h:Int):∀(f:Nat) (p:cf),p.dummy=none->Emp t f p->∀g,f<=g->(∃j,t.slot j=.empty/\cX t F h g p=some (.empty j none)/\Wy m (Oc t) j f p)\/
  ∃j i next f',f'<f/\t.slot j=.live i/\t.place[i]?=some j/\F i=h/\cX t F h g p=some (.candidate j i next)/\next.dummy=none/\Emp t f' next/\∀x,Wy m (Oc t) x f' next->Wy m (Oc t) x f p
 |0,p,_,he,g,_=>he.elim
 |f+1,p,hd,he,0,hg=>ak hg (by omega)
 |f+1,p,hd,he,g+1,hg=>by
  unfold cX;rcases T.slot p.j with ⟨i,e1,e2⟩|e1
  ·have he:Emp t f (t.advance p):=he.resolve_left λe=>by rw[e1]at e;cases e
   have oc:Oc t p.j:=by rw[<-bI]at e2;exact bz e2
   rw[e1];dsimp only;by_cases hh:F i=h
   ·right;exact⟨p.j,i,t.advance p,f,dS f,e1,e2,hh,by rw[ag (by rw[hh];simp)],Al hd,he,λx w=>.inr ⟨oc,by rw[<-Am T.toTb];exact w⟩⟩
   ·rw[ai (by simpa using hh)];rcases Kh T F h f (t.advance p) (Al hd) he g (by omega)with ⟨j,h1,h2,h3⟩|⟨j,i',nx,f',h1,h2,h3,h4,h5,h6,h7,h8⟩
    ·exact .inl ⟨j,h1,h2,.inr ⟨oc,by rw[<-Am T.toTb];exact h3⟩⟩
    ·exact .inr ⟨j,i',nx,f',by omega,h2,h3,h4,h5,h6,h7,λx w=>.inr ⟨oc,by rw[<-Am T.toTb];exact h8 x w⟩⟩
  ·left;rw[e1];exact⟨p.j,e1,by rw[hd],.inl rfl⟩
end
noncomputable abbrev hkE(prog:ar) (w:ao) (q:List Key×Addr):Int×aa:=(tupleKeyHash (nT prog w) q.1,.ref q.2)
structure Eh(prog:ar)(w:ao)(h:Heap)(L:List (List Key×Addr))(es:Array (Int×aa)):Prop where
 tk:∀q∈L,TK prog w h q.1 q.2
 p:es.toList.Perm (L.map (hkE prog w))
section
variable{prog:ar}{w:ao}{A:av}{E:aa->ae->Prop}{s:ae}{L:List (List Key×Addr)}{es:Array (Int×aa)}{t:bp}{m n ep:Nat}{S a2:Addr}{k2:List Key}{o:Obj}{h:Int}
theorem Eh.at(l:Eh prog w s.heap L es){i:Nat}{e:Int×aa}(he:es[i]?=some e):∃q∈L,e=hkE prog w q:=by rw[<-bI]at he;obtain⟨q,hq,rfl⟩:=az.mp (l.p.mem_iff.mp (bz he));exact⟨q,hq,rfl⟩
theorem yu{Q:jb->ae->Prop}{R:Nat->cf->Prop}{Z:Nat->Prop}(hu:A.units<cLine)(T:Tb t m n)(hm:m % 2=1)(hf:t.fits es.size=true)(l:Eh prog w s.heap L es)(t2:TK prog w s.heap k2 a2)
  (ho:s.heap.get? S=some o) (hd:o.data=.set es ep t) (hZ:∀j,Z j->Q (.free j false) s) (hT:k2∈L.map bq->Q (.there none) s)
  (step:∀f p,p.dummy=none->R f p->f<=10 * bB m->(∃j,cX t (λi=>(es[i]?.map (·.1)).getD 0) h (10 * bB m) p=some (.empty j none)/\Z j)\/∃j i next f',f'<f/\t.slot j=.live i/\t.place[i]?=some j/\
   cX t (λi=>(es[i]?.map (·.1)).getD 0) h (10 * bB m) p=some (.candidate j i next)/\next.dummy=none/\((∃q∈L,es[i]?=some (hkE prog w q)/\q.1=k2)\/R f' next)):∀(fuel f:Nat) (st:Option cf),f<fuel->f<=10 * bB m->(st.getD (t.probeStart h)).dummy=none->R f (st.getD (t.probeStart h))->
   ah (model prog w) A (setSearchFrom S (.ref a2) h true fuel st) Q E s
 |0,f,st,hl,_,_,_=>ak hl (by omega)
 |fuel+1,f,st,hl,hg,hdm,he=>by
  have sz:es.size=n:=by unfold fM at hf;rw[aB,beq_iff_eq,T.pl]at hf;exact hf.1.symm
  unfold setSearchFrom;refine au (fG ho hd hf ?_);dsimp only;rw[ai (by unfold SetTable.gaveWay;rw[T.mask,hm];decide)];unfold SetTable.probe;rw[NG (F':=λi=>(es[i]?.map (·.1)).getD 0),T.mask]
  rotate_left
  ·intro i;rfl
  rcases step f _ hdm he hg with ⟨j,e2,z⟩|⟨j,i,nx,f',h1,h2,h3,h5,h6,h7⟩
  ·rw[e2];exact aC (hZ j z)
  ·rw[h5];dsimp only;have hi:i<es.size:=by rw[sz,<- T.pl];exact(fV.mp h3).1
   obtain⟨q,hq,ey,c⟩:∃q∈L,es[i]?=some (hkE prog w q)/\(q.1=k2\/R f' nx):=by
    rcases h7 with ⟨q,hq,e,k⟩|h7
    ·exact⟨q,hq,e,.inl k⟩
    ·obtain⟨q,hq,e⟩:=l.at (dj hi);exact⟨q,hq,by rw[<-e,dj hi],.inr h7⟩
   have t1:=l.tk q hq;have si:t.sameMemory t.moves m=some true:=by unfold SetTable.sameMemory;simp
   have sb:∀v∈ly (λx:Int×aa=>x.snd) (Array.filter (λx=>x.fst==h) es).toList,∃k a,v=Value.ref a/\TK prog w s.heap k a:=λv hv=>by
    obtain⟨e,he,rfl⟩:=az.mp hv;have he:e∈es.toList:=by rw[Array.toList_filter]at he;exact(bF.mp he).1
    obtain⟨q,hq,rfl⟩:=az.mp (l.p.mem_iff.mp he);exact⟨q.1,q.2,rfl,l.tk q hq⟩
   cases hb:t.led;refine au (Gv sb t2 ?_)
   all_goals
    rw[ey];refine au (c7 (wpAny_eqBool_tuple hu t1 t2 ?_));refine au (fG ho hd hf ?_);by_cases hk:q.1=k2
    ·rw[aH hk];exact aC (hT (az.mpr ⟨q,hq,hk⟩))
    rw[aQ hk];dsimp only;rw[ai (by decide),si];dsimp only;rw[ag rfl,h2];dsimp only;rw[ey];refine au (wpAny_isSame_ref_self ?_);refine au (aC ?_);exact yu hu T hm hf l t2 ho hd hZ hT step fuel f' (some nx) (by omega) (by omega) h6 (c.resolve_left hk)
def Jz(m:Nat)(t:bp)(es:Array (Int×aa)):Prop:=∀(i:Nat) (e:Int×aa) (j:Nat),es[i]?=some e->t.place[i]?=some j->Wy m (Oc t) j (10 * bB m) ((tM m).probeStart e.1)
theorem Gx{Q:jb->ae->Prop}(hu:A.units<cLine)(T:Tu t m n)(hm:m % 2=1/\10 * bB m<100000)(hf:t.fits es.size=true)(l:Eh prog w s.heap L es)(W:Jz m t es)(t2:TK prog w s.heap k2 a2)(ho:s.heap.get? S=some o)(hd:o.data=.set es ep t)
  (he:k2∈L.map bq) (hT:Q (.there none) s):ah (model prog w) A (setSearchFrom S (.ref a2) (tupleKeyHash (nT prog w) k2) true 100000 none) Q E s:=by
 obtain⟨q,hq,rfl⟩:=az.mp he;obtain⟨i0,hi,e0⟩:=dP.mp (l.p.mem_iff.mpr (aR (f:=hkE prog w) hq));have e0:es[i0]?=some (hkE prog w q):=by rw[<-bI,aP hi,e0]
 have sz:es.size=t.place.size:=by unfold fM at hf;rw[aB,beq_iff_eq]at hf;exact hf.1.symm
 rw[bP]at hi;have p0:t.place[i0]?=some t.place[i0]:=dj (by omega);refine yu (Z:=λ_=>False) (R:=λf p=>Wy m (Oc t) t.place[i0] f p) hu T.toTb hm.1 hf l t2 ho hd (λj z=>z.elim) (λ_=>hT) (λf p hdm wy hg=>.inr ?_) 100000 _ none hm.2 (aA _) rfl (by
  rw[gh,Ke T.toTb];exact W i0 _ _ e0 p0)
 obtain⟨j,i,nx,f',h1,h2,h3,h4,h5,h6,h7⟩:=Kg T (λi=>(es[i]?.map (·.1)).getD 0) (tupleKeyHash (nT prog w) q.1) p0 (by show (es[i0]?.map (·.1)).getD 0=_;rw[e0];rfl) f p hdm wy _ hg
 refine⟨j,i,nx,f',h1,h2,h3,h5,h6,?_⟩;rcases h7 with rfl|h7
 ·exact .inl ⟨q,hq,e0,rfl⟩
 ·exact .inr h7
theorem Gy{Q:jb->ae->Prop}(hu:A.units<cLine)(T:Tu t m n)(hm:m % 2=1/\10 * bB m<100000)(hf:t.fits es.size=true)(l:Eh prog w s.heap L es)(t2:TK prog w s.heap k2 a2)(ho:s.heap.get? S=some o)(hd:o.data=.set es ep t)
  (he:k2∉L.map bq) (em:Emp t (10 * bB m) (t.probeStart h)) (hZ:∀j,t.slot j=.empty->Wy m (Oc t) j (10 * bB m) ((tM m).probeStart h)->Q (.free j false) s):ah (model prog w) A (setSearchFrom S (.ref a2) h true 100000 none) Q E s:=by
 refine yu (Z:=λj=>t.slot j=.empty/\Wy m (Oc t) j (10 * bB m) ((tM m).probeStart h)) (R:=λf p=>Emp t f p/\∀x,Wy m (Oc t) x f p->Wy m (Oc t) x (10 * bB m) ((tM m).probeStart h)) hu T.toTb hm.1 hf l t2 ho hd (λj z=>hZ j z.1 z.2) (λz=>ak z he) (λf p hdm wy hg=>?_) 100000 _ none hm.2 (aA _) rfl ⟨em,λx w=>by
  rw[gh,Ke T.toTb]at w;exact w⟩
 rcases Kh T (λi=>(es[i]?.map (·.1)).getD 0) h f p hdm wy.1 _ hg with ⟨j,h1,h2,h3⟩|⟨j,i',nx,f',h1,h2,h3,h4,h5,h6,h7,h8⟩
 ·exact .inl ⟨j,h2,h1,wy.2 j h3⟩
 ·exact .inr ⟨j,i',nx,f',h1,h2,h3,h5,h6,.inr ⟨h7,λx z=>wy.2 x (h8 x z)⟩⟩
end
def Mm(m:Nat):Prop:=m=7\/m=31\/m=127
def NJ(m:Nat):Nat->Nat->Nat->Nat
 |0,_,z=>z
 |k+1,i,z=>NJ m k ((i * 5+1) % (m+1)) (z|||2 ^ i)
theorem Dl{m r:Nat}:∀(k i z:Nat),(NJ m k i z).testBit r=true->r∈orb m k i\/z.testBit r=true
 |0,i,z,h=>.inr h
 |k+1,i,z,h=>by
  rcases Dl k _ _ h with h|h
  ·exact .inl (aG _ h)
  ·rw[Nat.testBit_or,Nat.testBit_two_pow,dX,bE]at h;rcases h with h|rfl
   ·exact .inr h
   ·exact .inl aE
theorem GA{m:Nat}(hm:Mm m){r:Nat}(hi:i<=m)(hr:r<=m):r∈orb m (m+1) i:=by
 have h:∀m∈[7,31,127],((aV (m+1)).all λi=>NJ m (m+1) i 0==2 ^ (m+1) - 1)=true:=by decide +kernel
 have:=aK.mp (h m (by rcases hm with rfl|rfl|rfl<;>simp)) i (bH.mpr (by omega));refine(Dl (m+1) i 0 ?_).resolve_right (by simp);rw[eU this,Nat.testBit_two_pow_sub_one,bE];omega
theorem Mm.odd{m:Nat}(h:Mm m):m % 2=1/\10 * bB m<100000:=by rcases h with rfl|rfl|rfl<;>decide
variable{led:Bool}
section
variable{t:bp}{m n:Nat}
theorem Emp.al(T:Tb t m n)(hm:Mm m)(hn:n<=m):∀(k i q:Nat),i<=m->q<32 ^ k->Emp t (10 * (k+(m+1))) (rs m i q)
 |0,i,q,hi,hq=>by
  obtain⟨r,hr,e⟩:=T.free hn;have q0:q=0:=by simpa using hq
  rw[q0,eL];exact Emp.orb T e _ _ (GA hm hi hr)
 |k+1,i,q,hi,hq=>by have:=Emp.leap T (Emp.al T hm hn k ((i * 5+1+q / 32) % (m+1)) (q / 32) (dQ (dG _ (c9 m))) (by rw[kX]at hq;omega));exact this.mono (by omega)
theorem Dm(h:Int):cb h<32 ^ 13:=by unfold cb;omega
theorem Emp.st(T:Tb t m n)(hm:Mm m)(hn:n<=m)(h:Int):Emp t (10 * bB m) (t.probeStart h):=by
 have:=Emp.al T hm hn 13 (cb h % (m+1)) (cb h) (dQ (dG _ (c9 m))) (Dm h);have e:t.probeStart h=rs m (cb h % (m+1)) (cb h):=by unfold SetTable.probeStart;rw[T.mask];rfl
 rw[e];exact this.mono (by unfold bB;omega)
variable{ow:Array (Option Nat)}{O:Nat->Prop}{j:Nat}
theorem GB{i q:Nat}:∀(k mo x:Nat),k<=mo->(∀k',k'<k->O (x+k'))->x+k=j->Wy m O j (k+1) ⟨x,mo,i,q,none⟩
 |0,mo,x,_,_,e=>.inl e
 |k+1,0,x,h,_,_=>ak h (by omega)
 |k+1,mo+1,x,h,ho,e=>.inr ⟨ho 0 (by omega),by
   have e1:(tM m).advance ⟨x,mo+1,i,q,none⟩=⟨x+1,mo,i,q,none⟩:=by unfold eF;rw[ag (c9 mo)];rfl
   rw[e1];exact GB k mo (x+1) (by omega) (λk' hk=>by rw[show x+1+k'=x+(k'+1) by omega];exact ho _ (by omega)) (by omega)⟩
theorem Dn{i q f:Nat}(h:Wy m O j f (rs m ((i * 5+1+q / 32) % (m+1)) (q / 32))):∀(mo x:Nat),(∀k,k<=mo->O (x+k))->Wy m O j (f+mo+1) ⟨x,mo,i,q,none⟩
 |0,x,ho=>.inr ⟨ho 0 (aA _),by
   have e:(tM m).advance ⟨x,0,i,q,none⟩=rs m ((i * 5+1+q / 32) % (m+1)) (q / 32):=by unfold eF kM;rfl
   rw[e];exact h⟩
 |mo+1,x,ho=>.inr ⟨ho 0 (by omega),by
   have e1:(tM m).advance ⟨x,mo+1,i,q,none⟩=⟨x+1,mo,i,q,none⟩:=by unfold eF;rw[ag (c9 mo)];rfl
   rw[e1];exact Dn h mo (x+1) λk hk=>by rw[show x+1+k=x+(k+1) by omega];exact ho _ (by omega)⟩
abbrev Oo(m:Nat)(ow:Array (Option Nat))(x:Nat):Prop:=x<=m/\¬Nn ow x
theorem Ki(hi:i<=m):i<=bL m i/\bL m i<=m/\bL m i<=i+9:=by unfold bL;split<;>omega
theorem An{f q:Nat}(hi:i<=m):(∃k,k<=bL m i - i/\Nn ow (i+k)/\(∀k',k'<k->¬Nn ow (i+k'))/\cJ m ow (f+1) i q=some (i+k))\/
  ((∀k,k<=bL m i - i->¬Nn ow (i+k))/\cJ m ow (f+1) i q=cJ m ow f ((i * 5+1+q / 32) % (m+1)) (q / 32)):=by
 have ef:cJ m ow (f+1) i q=match (aV (bL m i+1 - i)).find? λk=>(ow.getD (i+k) (some 0)).isNone with
  |some k=>some (i+k)
  |none=>cJ m ow f ((i * 5+1+q / 32) % (m+1)) (q / 32):=rfl
 have rm:=Ki hi;rw[ef];cases e:(aV (bL m i+1 - i)).find? λk=>(ow.getD (i+k) (some 0)).isNone with
 |some k=>
  obtain⟨h1,a,b,h2,h3⟩:=List.find?_eq_some_iff_append.mp e;have hl:a.length=k/\∀x,x<k->x∈a:=by
   have ek:(aV (bL m i+1 - i))[a.length]?=some k:=by rw[h2];simp
   obtain⟨z1,z2⟩:=bj.mp ek;rw[List.getElem_range]at z2;refine⟨z2,λx hx=>?_⟩;have ex:(aV (bL m i+1 - i))[x]?=some x:=by rw[hJ];rw[cW]at z1;omega
   rw[h2,ck (by omega)]at ex;exact bz ex
  have hk:k∈aV (bL m i+1 - i):=List.mem_of_find?_eq_some e;rw[bH]at hk;have h5:∀k',k'<k->¬Nn ow (i+k'):=λk' hk' z=>by have:=h3 k' (hl.2 k' hk');unfold Nn at z;rw[z]at this;cases this
  exact .inl ⟨k,by omega,h1,h5,rfl⟩
 |none=>refine .inr ⟨λk hk h=>?_,rfl⟩;have:=List.find?_eq_none.mp e k (bH.mpr (by omega));exact this h
theorem zq{r:Nat}(hr:Nn ow r):∀(k f i:Nat),k<=f->i<=m->r∈orb m k i->∃j,cJ m ow f i 0=some j
 |0,f,i,_,_,h=>by cases h
 |k+1,0,i,hf,_,_=>ak hf (by omega)
 |k+1,f+1,i,hf,hi,h=>by
  rcases An (ow:=ow) (f:=f) (q:=0) hi with ⟨k',_,_,_,e⟩|⟨h1,h2⟩
  ·exact⟨_,e⟩
  ·rcases aO.mp h with e|h
   ·exact ak (e▸hr) (h1 0 (bW _))
   ·rw[h2];exact zq hr k f _ (by omega) (dQ (dG _ (c9 m))) h
theorem Do(hm:Mm m){r:Nat}(hr:Nn ow r)(h32:r<=m):∀(k f i q:Nat),k+(m+1)<=f->i<=m->q<32 ^ k->∃j,cJ m ow f i q=some j
 |0,f,i,q,hf,hi,hq=>by
  have q0:q=0:=by simpa using hq
  rw[q0];exact zq hr (m+1) f i (by omega) hi (GA hm hi h32)
 |k+1,0,i,q,hf,_,_=>ak hf (by omega)
 |k+1,f+1,i,q,hf,hi,hq=>by
  rcases An (ow:=ow) (f:=f) (q:=q) hi with ⟨k',_,_,_,e⟩|⟨_,h2⟩
  ·exact⟨_,e⟩
  ·rw[h2];exact Do hm hr h32 k f _ _ (by omega) (dQ (dG _ (c9 m))) (by rw[kX]at hq;omega)
theorem Dp:∀(f i q:Nat),i<=m->cJ m ow f i q=some j->Nn ow j/\Wy m (Oo m ow) j (10 * f) (rs m i q)
 |0,i,q,_,e=>by cases e
 |f+1,i,q,hi,e=>by
  have rm:=Ki hi;rcases An (ow:=ow) (f:=f) (q:=q) hi with ⟨k,h1,h2,h3,h4⟩|⟨h1,h2⟩
  ·rw[h4]at e;cases e;exact⟨h2,(GB k _ i h1 (λk' hk=>⟨by omega,h3 k' hk⟩) rfl).mono (λ_ h=>h) (by omega)⟩
  ·rw[h2]at e;obtain⟨h3,h4⟩:=Dp f _ _ (dQ (dG _ (c9 m))) e;exact⟨h3,(Dn h4 (bL m i - i) i λk hk=>⟨by omega,h1 k hk⟩).mono (λ_ h=>h) (by omega)⟩
def lvm(m:Nat)(ow:Array (Option Nat)):List (Nat×Nat):=(aV (m+1)).filterMap λj=>(ow.getD j none).map (j,·)
theorem NK(hs:ow.size=m+1){j:Nat}(h:Nn ow j):j<m+1/\ow.getD j none=none:=by
 unfold Nn at h;by_cases hj:j<ow.size
 ·refine⟨by omega,?_⟩;rw[dM,dj hj]at h ⊢;simpa using h
 ·rw[dM,Array.getElem?_eq_none (by omega)]at h;cases h
theorem GE(hs:ow.size=m+1){j:Nat}(hj:j<=m)(e:ow.getD j none=none):Nn ow j:=by unfold Nn;rw[dM,dj (by omega)]at e ⊢;simpa using e
theorem Dr{k:Nat}(hj:j<ow.size)(i:Nat):(ow.setIfInBounds j (some k)).getD i none=if i=j then some k else ow.getD i none:=by
 rw[dM,dM,Array.getElem?_setIfInBounds];by_cases hi:j=i
 ·subst hi;rw[ag rfl,ag (by omega),ag rfl];rfl
 ·rw[ai hi,ai (λe=>hi e.symm)]
theorem JA(hs:ow.size=m+1){k:Nat}(h:Nn ow j):(lvm m (ow.setIfInBounds j (some k))).Perm ((j,k)::lvm m ow):=by
 obtain⟨hj,e⟩:=NK hs h;have get:=Dr (ow:=ow) (k:=k) (j:=j) (by omega);obtain⟨a,b,sp⟩:=List.append_of_mem (bH.mpr hj);have nd:(aV (m+1)).Nodup:=ka;rw[sp,bG,cY]at nd;unfold lvm;rw[sp,jx,jx,cN,cN,get j,ag rfl,e];have eq:∀l:List Nat,j∉l->l.filterMap (λi=>((ow.setIfInBounds j (some k)).getD i none).map (i,·))=l.filterMap λi=>(ow.getD i none).map (i,·):=λl hl=>by
  induction l with
  |nil=>rfl
  |cons i l ih=>rw[cN,cN,ih λz=>hl (aG _ z),get i,ai λe=>hl (by rw[<-e];exact aE)]
 rw[eq a λz=>nd.2.2 j z j aE rfl,eq b nd.2.1.1];exact List.perm_middle
theorem GF(hs:ow.size=m+1)(hl:(lvm m ow).length<=m):∃r,r<=m/\Nn ow r:=by
 apply je;intro no;have:∀l:List Nat,(∀j∈l,j<=m)->(l.filterMap λj=>(ow.getD j none).map (j,·)).length=l.length:=λl hl=>by
  induction l with
  |nil=>rfl
  |cons j l ih=>
   have hj:=hl j aE;cases e:ow.getD j none with
   |none=>exact ak ⟨j,hj,GE hs hj e⟩ no
   |some x=>rw[cN,e];show (List.filterMap _ l).length+1=l.length+1;rw[ih λz hz=>hl z (aG _ hz)]
 have:=this (aV (m+1)) λj hj=>by have:=bH.mp hj;omega
 unfold lvm at hl;rw[this,cW]at hl;omega
def Lw(m:Nat)(ow:Array (Option Nat))(hs:List Int):Prop:=∀j k,j<=m->ow.getD j none=some k->∃h,hs[k]?=some h/\Wy m (Oo m ow) j (10 * bB m) ((tM m).probeStart h)
theorem Kj(hm:Mm m):∀(hs pre:List Int) (ow:Array (Option Nat)),ow.size=m+1->((lvm m ow).map dg).Perm (aV pre.length)->Lw m ow pre->pre.length+hs.length<=m->∃ow',ow'.size=m+1/\((lvm m ow').map dg).Perm (aV (pre.length+hs.length))/\Lw m ow' (pre++hs)/\
  (hs.foldl (λacc h=>do
   let (owner,k)<-acc;let j<-cJ m owner (bB m) (cb h % (m+1)) (cb h)
   pure (owner.setIfInBounds j (some k),k+1)) (some (ow,pre.length)))=some (ow',pre.length+hs.length)
 |[],pre,ow,h1,h2,h4,_=>⟨ow,h1,h2,by rw[bh];exact h4,rfl⟩
 |h::hs,pre,ow,h1,h2,h4,h3=>by
  rw[aD]at h3;have ll:=h2.length_eq;rw[af,cW]at ll;obtain⟨r,hr,nr⟩:=GF h1 (by omega);have mo:cb h % (m+1)<=m:=dQ (dG _ (c9 m));obtain⟨j,ej⟩:=Do hm nr hr 13 (bB m) (cb h % (m+1)) (cb h) (by unfold bB;omega) mo (Dm h);obtain⟨nj,wj⟩:=Dp _ _ _ mo ej;have jl:=(NK h1 nj).1;have get:=Dr (ow:=ow) (k:=pre.length) (j:=j) (by omega);have up:∀x,Oo m ow x->Oo m (ow.setIfInBounds j (some pre.length)) x:=λx hx=>⟨hx.1,λz=>by
   have:=(NK (m:=m) (by rw[jg];exact h1) z).2;rw[get x]at this;split at this
   ·cases this
   ·exact hx.2 (GE h1 hx.1 this)⟩
  obtain⟨ow',q1,q2,q4,q3⟩:=Kj hm hs (pre++[h]) (ow.setIfInBounds j (some pre.length)) (by rw[jg];exact h1) (by
   refine((JA h1 nj).map dg).trans ?_;rw[aF,aw,br,List.range_succ];exact((List.Perm.cons _ h2).trans (gS _ _).symm)) (λx k hx e=>by
    rw[get x]at e;split at e
    ·rename_i ex;cases e;subst ex;exact⟨h,by rw[cH (aA _),fP];rfl,wj.mono up (aA _)⟩
    ·obtain⟨h',e1,w⟩:=h4 x k hx e;exact⟨h',by rw[ck (bj.mp e1).1];exact e1,w.mono up (aA _)⟩) (by rw[aw,br];omega)
  rw[aw,br]at q2 q3;refine⟨ow',q1,by rw[aD,show pre.length+(hs.length+1)=pre.length+1+hs.length by omega];exact q2,by rw[bD]at q4;exact q4,?_⟩;rw[cy,aD,show pre.length+(hs.length+1)=pre.length+1+hs.length by omega,<- q3];congr 1;show (cJ m ow (bB m) (cb h % (m+1)) (cb h)).bind _=_;rw[ej];rfl
theorem NL{fg mv:Nat}{pl:Bool}(hm:Mm m)(hs:Array Int)(hn:hs.size<=m):∃t order,kN m fg mv led pl hs=some (t,order)/\Tu t m hs.size/\t.led=led/\t.plain=pl/\order.toList.Perm (aV hs.size)/\
  ∀(i j k:Nat),t.place[i]?=some j->order[i]?=some k->∃h,hs[k]?=some h/\Wy m (Oc t) j (10 * bB m) ((tM m).probeStart h):=by
 have no:∀j,(iA (m+1) (none:Option Nat)).getD j none=none:=λj=>by rw[dM,Array.getElem?_replicate];split<;>rfl
 obtain⟨ow,h1,h2,h4,h3⟩:=Kj hm hs.toList [] (iA (m+1) none) (by simp) (by
  have:lvm m (iA (m+1) none)=[]:=by unfold lvm;rw[List.filterMap_eq_nil_iff];intro j hj;rw[no j];rfl
  rw[this];exact .nil) (λj k _ e=>by rw[no j]at e;cases e) (by rw[bP];simpa using hn)
 rw[b8,eL,bP]at h2 h3;have e:jZ m hs=some ow:=by unfold jZ;rw[<-Array.foldl_toList];exact aM (Option.map bq) h3
 have mem:∀q∈lvm m ow,q.1<=m/\ow.getD q.1 none=some q.2:=λq hq=>by
  unfold lvm at hq;obtain⟨j,hj,e⟩:=eD.mp hq;cases e2:ow.getD j none with
  |none=>rw[e2]at e;cases e
  |some x=>rw[e2]at e;cases e;exact⟨dQ (bH.mp hj),e2⟩
 refine⟨⟨m,((lvm m ow).map (·.1)).toArray,#[],fg,led,mv,pl⟩,((lvm m ow).map (·.2)).toArray,by unfold kN;rw[e];rfl,⟨⟨rfl,rfl,?_⟩,?_⟩,rfl,rfl,h2,λi j k ej ek=>?_⟩
 ·have:=h2.length_eq;rw[af,cW]at this;rw[aS,af,this]
 ·show List.Pairwise _ ((lvm m ow).map (·.1))
  have sub:∀l:List Nat,((l.filterMap λj=>(ow.getD j none).map (j,·)).map (·.1)).Sublist l:=λl=>by
   induction l with
   |nil=>exact .slnil
   |cons x l ih=>
    rw[cN];cases ow.getD x none with
    |none=>exact ih.cons x
    |some y=>exact ih.cons_cons x
  exact mw (sub _) List.pairwise_lt_range
 ·rw[gZ,aZ]at ej ek;obtain⟨q,e1,rfl⟩:=jn.mp ej;rw[e1]at ek;cases ek;obtain⟨m1,m2⟩:=mem q (bz e1);obtain⟨h,g1,g2⟩:=h4 q.1 q.2 m1 m2;refine⟨h,by rw[b9,bI]at g1;exact g1,g2.mono (λx hx=>?_) (aA _)⟩;show x∈(lvm m ow).map (·.1)
  cases e2:ow.getD x none with
  |none=>exact ak (GE h1 hx.1 e2) hx.2
  |some y=>exact az.mpr ⟨(x,y),eD.mpr ⟨x,bH.mpr (by have:=hx.1;omega),by rw[e2];rfl⟩,rfl⟩
end
theorem Kk{α β:Type}(f:α->Option β):∀(l:List α),(∀k∈l,∃e,f k=some e)->∀i:Nat,(l.filterMap f)[i]?=l[i]?.bind f
 |[],_,i=>rfl
 |a::l,h,i=>by
  obtain⟨e,ea⟩:=h a aE;rw[cN,ea];cases i with
  |zero=>exact ea.symm
  |succ i=>exact Kk f l (λk hk=>h k (aG _ hk)) i
section
variable{prog:ar}{w:ao}{A:av}{E:aa->ae->Prop}{s:ae}{L:List (List Key×Addr)}{es:Array (Int×aa)}{t:bp}{m n ep:Nat}{S a2:Addr}{k2:List Key}{o:Obj}{h:Int}
theorem JB{Q:Unit->ae->Prop}(hc:(t.mask=7/\es.size=5/\m=31)\/(t.mask=31/\es.size=19/\m=127))(ho:s.heap.get? S=some o)(hd:o.data=.set es ep t)(hf:t.fits es.size=true)
  (hQ:∀h' es' t',eO S s.heap h'->h'.get? S=some { o with data:=.set es' (ep+1) t' }->Tu t' m es.size->Jz m t' es'->t'.led=t.led->t'.plain=t.plain->es'.toList.Perm es.toList->Q () { s with heap:=h' }):ah (model prog w) A (setRelay S (fL es.size)) Q E s:=by
 have hm:Mm m:=by unfold Mm;omega
 have hg:jR (fL es.size) - 1=m/\¬jR (fL es.size) > 1000:=by rcases hc with ⟨_,e,rfl⟩|⟨_,e,rfl⟩<;>rw[e]<;>decide
 unfold setRelay;refine au (fG ho hd hf ?_);dsimp only;rw[ai (by rw[cz];omega)];obtain⟨t',order,e1,T,e2,e3,e4,e5⟩:=NL (fg:=t.finger) (mv:=t.movedTo m) (led:=t.led) (pl:=t.plain) hm (es.map (·.1)) (by rw[kB];omega)
 rw[kB]at T e4;have all:∀k∈order.toList,∃e,es[k]?=some e:=λk hk=>⟨es[k]'(bH.mp (e4.mem_iff.mp hk)),dj _⟩;have hp:(order.filterMap (es[·]?)).toList.Perm es.toList:=by rw[jr];exact(e4.filterMap _).trans (by rw[filterMap_getElem?_range])
 have er:t.relaid (es.map (·.1)) (fL es.size)=some (t',order):=by unfold SetTable.relaid;rw[hg.1];exact e1
 rw[er];have sz:(order.filterMap (es[·]?)).size=es.size:=by have:=hp.length_eq;rw[bP,bP]at this;exact this
 refine au ?_;wp_delta;dsimp only;rw[ai (by rw[sz];simp)];refine aC ?_;refine j1 ho hd ?_ (by show (order.filterMap (es[·]?)).size<=ay;rw[sz,cz];omega)
 refine hQ _ _ _ (ia ..) (F8 ho hd) T (λi e j he hj=>?_) e2 e3 hp;rw[<-bI,jr,Kk _ _ all]at he;obtain⟨k,ek,he⟩:=Option.bind_eq_some_iff.mp he;rw[bI]at ek;obtain⟨h,eh,w⟩:=e5 i j k hj ek;rw[Array.getElem?_map,he]at eh;cases eh;exact w
def Cw(m n:Nat)(t:bp)(es:Array (Int×aa)):Prop:=Tu t m n/\Cz2 m n/\Jz m t es
theorem NM{m n:Nat}(h:Cz2 m n):Mm m/\n<=m/\n+1<=m:=by unfold Cz2 at h;unfold Mm;omega
theorem Qb{m n:Nat}(h:Cz2 m n)(h0:n<63)(h5:(n+1) * 5 >= m * 3):∃m',((m=7/\n+1=5/\m'=31)\/(m=31/\n+1=19/\m'=127))/\Cz2 m' (n+1):=by
 unfold Cz2 at h ⊢;by_cases z:m=7
 ·exact⟨31,by omega⟩
 ·exact⟨127,by omega⟩
theorem Qc{m n:Nat}(h:Cz2 m n)(h0:n<63)(h5:¬(n+1) * 5 >= m * 3):Cz2 m (n+1):=by unfold Cz2 at h ⊢;omega
theorem Pg{x:Str}{Q:Bool->ae->Prop}(hu:A.units<cLine)(C:Cw m n t es)(h60:n<63)(hf:t.fits es.size=true)(l:Eh prog w s.heap L es)(t2:TK prog w s.heap (Sum.inr x::k2) a2)
  (ho:s.heap.get? S=some o) (hd:o.data=.set es ep t) (hT:(Sum.inr x::k2)∈L.map bq->Q false s)
  (hQ:(Sum.inr x::k2)∉L.map bq->∀h' es' t' ep' m',eO S s.heap h'->h'.get? S=some { o with data:=.set es' ep' t' }->Cw m' (n+1) t' es'->t'.led=t.led->t'.plain=false->es'.toList.Perm ((tupleKeyHash (nT prog w) (Sum.inr x::k2),.ref a2)::es.toList)->Q true { s with heap:=h' }):
  ah (model prog w) A (setAddHashed S (.ref a2) (tupleKeyHash (nT prog w) (Sum.inr x::k2))) Q E s:=by
 obtain⟨T,hc,W⟩:=C;have hm:Mm m:=(NM hc).1;have sz:es.size=n:=by unfold fM at hf;rw[aB,beq_iff_eq,T.pl]at hf;exact hf.1.symm
 unfold setAddHashed setAddHashedIn;refine c7 (au (fG ho hd hf ?_));dsimp only;rw[ai (by simp[byScan,Value.scannable])];have nm:n<=m:=(NM hc).2.1;by_cases ne:(Sum.inr x::k2)∈L.map bq
 ·refine au (Gx hu T hm.odd hf l W t2 ho hd ne ?_);exact aC (hT ne)
 generalize hh:tupleKeyHash (nT prog w) (Sum.inr x::k2)=h at hQ ⊢;refine au (Gy hu T hm.odd hf l t2 ho hd ne (Emp.st T.toTb hm nm h) λj hj wj=>?_);dsimp only;refine au (fG ho hd hf ?_);dsimp only;have p1:(t.put j).1.mask=m:=T.mask;have p2:(t.put j).1.dummies=#[]:=by show (if kU t.dummies j then _ else t.dummies)=_;rw[T.dm];rfl
 have bl:=(yt T.up j).1;have p3:(t.put j).1.place.size=n+1:=by have:=(gY t.place (bu t.place j) j).length_eq;rw[bP,bP,Array.size_push,T.pl]at this;exact this
 have p4:(bV es (t.put j).2 (h,Value.ref a2)).toList.Perm ((h,.ref a2)::es.toList):=by refine(gY es _ _).trans ?_;rw[j2];exact gS _ _
 have p5:(bV es (t.put j).2 (h,Value.ref a2)).size=n+1:=by have:=p4.length_eq;rw[bP,aD,bP,sz]at this;exact this
 let t1:bp:={ (t.put j).1 with plain:=false };have T1:Tu t1 m (n+1):=⟨⟨p1,p2,p3⟩,NH T.up (T.emp hj)⟩;have up:∀x,Oc t x->Oc t1 x:=λx hx=>by show x∈(bV t.place (bu t.place j) j).toList;rw[(gY _ _ _).mem_iff,j2];exact bb _ hx
 have W1:Jz m t1 (bV es (t.put j).2 (h,Value.ref a2)):=λi e r he hr=>by
  have he:(bV es (bu t.place j) (h,Value.ref a2))[i]?=some e:=he;have hr:(bV t.place (bu t.place j) j)[i]?=some r:=hr;rw[sW _ (by rw[sz,<- T.pl];exact bl)]at he;rw[sW _ bl]at hr;by_cases c1:i<bu t.place j
  ·rw[ag c1]at he hr;exact(W i e r he hr).mono up (aA _)
  ·rw[ai c1]at he hr;by_cases c2:i=bu t.place j
   ·rw[ag c2]at he hr;cases he;cases hr;exact wj.mono up (aA _)
   ·rw[ai c2]at he hr;exact(W (i - 1) e r he hr).mono up (aA _)
 have f1:t1.fits (bV es (t.put j).2 (h,Value.ref a2)).size=true:=by unfold fM iI;rw[p5,T1.pl,T1.dm,T1.mask,aB];exact⟨by simp,aH (by have:=(NM hc).2.2;simp;first|exact this|omega)⟩
 have fin:∀t0:bp,t0=t1->ah (model prog w) A (do
   storeSet S (bV es (t.put j).2 (h,.ref a2)) t0
   if (!false&&t0.tooFull)=true then do setRelay S (fL (es.size+1));pure true else pure true) Q E s:=λt0 e=>by
  subst e;refine au (j1 ho hd ?_ (by rw[p5,cz];omega));have g1:=F8 (es':=bV es (t.put j).2 (h,Value.ref a2)) (t':=t1) ho hd;have tf:t1.tooFull=decide ((n+1) * 5 >= m * 3):=by unfold SetTable.tooFull iI;rw[T1.pl,T1.dm,T1.mask];rfl
  rw[tf];by_cases h5:(n+1) * 5 >= m * 3
  ·rw[aH h5,ag (by decide),sz,<- p5];obtain⟨m',hm',hz⟩:=Qb hc h60 h5;refine au (JB (m:=m') (s:={ s with heap:=s.heap.update S (i8 (bV es (t.put j).2 (h,.ref a2)) t1) }) (by rw[p5,T1.mask];exact hm') g1 rfl f1 λh' es' t' b1 b2 b3 b3' b4 b5 b6=>?_);rw[p5]at b3;exact aC (hQ ne h' es' t' _ m' ((ia ..).trans b1) b2 ⟨b3,hz,b3'⟩ b4 b5 (b6.trans p4))
  ·rw[aQ h5,ai (by decide)];exact aC (hQ ne _ _ _ _ m (ia ..) g1 ⟨T1,Qc hc h60 h5,W1⟩ rfl rfl p4)
 split
 ·refine au (Gw t2 ?_);exact fin _ rfl
 ·rename_i hp;refine au (aC (fin _ ?_));rw[j9]at hp;rw[ag rfl];show (t.put j).1={ (t.put j).1 with plain:=false };rw[<-hp]
end
section
variable{κ α:Type}[DecidableEq κ]
def ust(acc:List (κ×α))(q:κ×α):List (κ×α):=if q.1∈acc.map bq then acc else acc++[q]
def uqP(l:List (κ×α)):List (κ×α):=l.foldl ust []
def uqK(l:List κ):List κ:=l.foldl (λacc k=>if k∈acc then acc else acc++[k]) []
theorem Ao(acc:List (κ×α)):∀l:List (κ×α),∃r,l.foldl ust acc=acc++r/\∀q∈r,q∈l
 |[]=>⟨[],(bh _).symm,λq hq=>by cases hq⟩
 |q::l=>by
  obtain⟨r,e,h⟩:=Ao (ust acc q) l;rw[cy,e];unfold ust;split
  ·exact⟨r,rfl,λq hq=>aG _ (h q hq)⟩
  ·refine⟨q::r,by rw[bD];rfl,λx hx=>?_⟩;rcases aO.mp hx with rfl|hx
   ·exact aE
   ·exact aG _ (h x hx)
theorem GH(l:List (κ×α))(q:κ×α):uqP (l++[q])=ust (uqP l) q:=by unfold uqP;rw[ip];rfl
theorem Ds(l:List (κ×α))(i:Nat):(uqP (l.take i)).length<=(uqP l).length:=by
 have e:uqP l=(l.drop i).foldl ust (uqP (l.take i)):=by unfold uqP;rw[<-ip,jw]
 obtain⟨r,h,_⟩:=Ao (uqP (l.take i)) (l.drop i);rw[e,h,aw];omega
theorem JC{l:List (κ×α)}{q:κ×α}(h:q∈uqP l):q∈l:=by obtain⟨r,e,h'⟩:=Ao ([]:List (κ×α)) l;unfold uqP at h;rw[e]at h;exact h' q h
theorem JD{κ':Type}[DecidableEq κ']{g:κ->κ'}(hg:∀a b,g a=g b->a=b)(l:List (κ×α)):uqP (l.map λq=>(g q.1,q.2))=(uqP l).map λq=>(g q.1,q.2):=by
 have:∀(l acc:List (κ×α)),(l.map λq=>(g q.1,q.2)).foldl ust (acc.map λq=>(g q.1,q.2))=(l.foldl ust acc).map λq=>(g q.1,q.2):=λl=>by
  induction l with
  |nil=>intro acc;rfl
  |cons q l ih=>
   intro acc;rw[aF,cy,cy,<- ih];congr 1;unfold ust;have:g q.1∈(acc.map λq=>(g q.1,q.2)).map bq ↔ q.1∈acc.map bq:=by rw[aY,az,az];exact⟨λ⟨a,h1,h2⟩=>⟨a,h1,hg _ _ h2⟩,λ⟨a,h1,h2⟩=>⟨a,h1,aM g h2⟩⟩
   by_cases hk:q.1∈acc.map bq
   ·rw[ag hk,ag (this.mpr hk)]
   ·rw[ai hk,ai λz=>hk (this.mp z),bg];rfl
 exact this l []
end
structure JE(prog:ar)(w:ao)(h:Heap)(S:Addr)(L:List (List Key×Addr))(led:Bool)(n:Nat)(o:Obj)(es:Array (Int×aa))(ep:Nat)(t:bp):Prop extends yU h S L led n o es ep t where
 cw:∃m,Cw m n t es
 pe:es.toList.Perm (L.map (hkE prog w))
section
variable{prog:ar}{w:ao}{A:av}{R:cR->ae->Prop}{I:Addr}{fp wr:List Addr}{GG:Array eA->Array eA->Prop}{n:Nat}{PP:Nat->aa->Prop}{SS:Nat->ae->Prop}
theorem EF(W:WalksS prog w A.in1 I fp wr GG n PP SS){S:Addr}(hSf:S∉fp)(hu:A.in1.units<cLine)(L:List (List Key×Addr))(hn:L.length=n)(h8:(uqP L).length<63)(hk:∀q∈L,∃x k,q.1=Sum.inr x::k)(far:∀q∈L,q.2∉S::wr)
  (hval:∀i v,PP i v->∃q,L[i]?=some q/\v=.ref q.2):∀(k i:Nat) (s:ae) (o:Obj) (es:Array (Int×aa)) (ep:Nat) (t:bp),n - i=k->i<=n->SS i s->(∀q∈L,TK prog w s.heap q.1 q.2)->JE prog w s.heap S (uqP (L.take i)) led (uqP (L.take i)).length o es ep t->
   (∀s' o es ep t,Moved (S::wr) GG s s'->JE prog w s'.heap S (uqP L) led (uqP L).length o es ep t->R (.ok (.ret .none)) s')->
   bS (model prog w) A (.builtin "set.update.loop" ⟨[.ref S,.ref I],[]⟩) R s:=by
 have hSw:S∉wr:=λz=>hSf (W.sub _ z);have up:∀b∈wr,b∈S::wr:=λb z=>aG _ z;intro k
 induction k with
 |zero=>
  intro i s o es ep t hk' hi hst tk x hR;obtain rfl:i=n:=by omega
  refine eI fX ?_;rw[fw dN _];show ah _ A.in1 (pyNext (.ref I)>>=_) _ _ s;refine au (W.done s _ _ hst λs' hm=>?_);show ah _ A.in1 (ret Value.none) _ _ s';rw[fZ (by omega)]at x;exact aC (hR s' o es ep t (hm.mono up) { x with at_:=hm.heap S _ hSw x.at_ })
 |succ k ih=>
  intro i s o es ep t hk' hi hst tk x hR;have hlt:i<n:=by omega
  refine eI fX ?_;rw[fw dN _];show ah _ A.in1 (pyNext (.ref I)>>=_) _ _ s;refine au (W.item i s _ _ hlt hst λv s' hP hst' hm=>?_);obtain⟨q,eq,rfl⟩:=hval i v hP;have mq:q∈L:=bz eq;have tk':∀q∈L,TK prog w s'.heap q.1 q.2:=λq hq=>(tk q hq).kept λo=>hm.heap q.2 o λz=>far q hq (up _ z);show ah _ A.in1 (holding _ (setAdd S _)>>=_) _ _ s';refine au (c7 ?_);unfold setAdd;refine c7 ?_;refine au (wpAny_pyHash_tuple hu (tk' q mq) ?_);obtain⟨m,C⟩:=x.cw;obtain⟨z,kk,ez⟩:=hk q mq;have tq:TK prog w s'.heap (Sum.inr z::kk) q.2:=by rw[<-ez];exact tk' q mq
  have split:uqP (L.take (i+1))=ust (uqP (L.take i)) q:=by rw[jW,eq];exact GH _ _
  have sub:∀r∈uqP (L.take i),r∈L:=λr hr=>(fD _ _).subset (JC hr);have x':JE prog w s'.heap S (uqP (L.take i)) led (uqP (L.take i)).length o es ep t:={ x with at_:=hm.heap S _ hSw x.at_ };have ul:=Ds L i;have ul1:=Ds L (i+1);rw[ez];refine Pg (s:={ s' with toks:=s'.toks+((Sum.inr z::kk:List Key).length+1) }) (L:=uqP (L.take i)) hu C (by omega) (yU.fits ⟨x'.at_,x'.ex,x'.d,x'.c,x'.led,x'.pl,x'.p⟩ rfl) ⟨λr hr=>tk' r (sub r hr),x'.pe⟩ tq x'.at_ x'.d (λinn=>?_) λnin h' es' t' ep' m' b1 b2 b3 b5 b6 b7=>?_
  ·rw[<-ez]at inn;have e:uqP (L.take (i+1))=uqP (L.take i):=by rw[split];unfold ust;rw[ag inn]
   refine aC ⟨gq dN _,ih (i+1) _ o es ep t (by omega) hlt (W.frame _ s' s'.heap _ hst' (gk _ _) λb z o e=>e) tk' (by rw[e];exact x') λs'' o2 es2 ep2 t2 hm'' x2=>?_⟩;exact hR s'' o2 es2 ep2 t2 (iX W.gtrans ((hm.mono up).then_heap (gk _ _) λb o z e=>e) hm'') x2
  rw[<-ez]at nin;have e:uqP (L.take (i+1))=uqP (L.take i)++[q]:=by rw[split];unfold ust;rw[ai nin]
  have y:JE prog w h' S (uqP (L.take (i+1))) led (uqP (L.take (i+1))).length { o with data:=.set es' ep' t' } es' ep' t':=by
   have pe:es'.toList.Perm ((uqP (L.take (i+1))).map (hkE prog w)):=by rw[e,bg];refine b7.trans (.trans ?_ (gS _ _).symm);rw[show hkE prog w q=(tupleKeyHash (nT prog w) (Sum.inr z::kk),.ref q.2) by unfold hkE;rw[ez]];exact List.Perm.cons _ x.pe
   have hl:(uqP (L.take (i+1))).length=(uqP (L.take i)).length+1:=by rw[e,aw];rfl
   rw[hl];exact⟨⟨b2,x.ex,rfl,⟨m',b3.1.toTb,b3.2.1⟩,b5.trans x.led,λ_=>b6,by have:=pe.map dg;rw[aY]at this;exact this⟩,⟨m',b3⟩,pe⟩
  refine aC ⟨gq dN _,ih (i+1) _ _ _ _ _ (by omega) hlt (W.frame _ s' h' _ hst' (gk _ _) λb z o e=>?_) (λr hr=>(tk' r hr).kept λo e=>?_) y λs'' o2 es2 ep2 t2 hm'' x2=>?_⟩
  ·rw[b1.2 b (λy:b=S=>hSf (by rw[<-y];exact z))];exact e
  ·rw[b1.2 r.2 (λy:r.2=S=>far r hr (by rw[y];exact aE))];exact e
  ·refine hR s'' o2 es2 ep2 t2 (iX W.gtrans ((hm.mono up).then_heap (gk _ _) λb o z e=>?_) hm'') x2;rw[b1.2 b (λy:b=S=>z (by rw[y];exact aE))];exact e
end
end L4
namespace L4
open PySem PySem.Spec PySem.Calls PyProof.Rows PySem.W L2 L3
section
variable{X:Cx}{G:Bg}{H:Hp}{pins:List (Addr×Obj)}{σ:St}{s:ae}
theorem Kl(L:List (List Str×Addr)):uqP (L.map λq=>(TkS q.1,q.2))=(uqP L).map λq=>(TkS q.1,q.2):=JD (g:=TkS) (λa b h=>(List.map_inj_right λ_ _ h=>gy h).mp h) L
theorem GK{prog:ar}{w:ao}{A:av}{ax:Addr}{its:List aa}{L:List (List Str×Addr)}{led:Bool}{itO:Obj}{SS:Nat->Heap->Prop}(hlt:ax<s.heap.objs.size)(ht:∀q∈L,∃p r,q.1=[p,r])(tk:∀q∈L,TK prog w s.heap (TkS q.1) q.2)
  (ev:∀(i:Nat) (v:aa),its[i]?=some v->∃q,L[i]?=some q/\v=.ref q.2) (li:L.length=its.length) (h8:(uqP L).length<63) (hu:A.in1.units<cLine)
  (W:Walks prog w A.in1 (s.heap.objs.size+1) [s.heap.objs.size+1,ax] [s.heap.objs.size+1] its.toArray.size (λi v=>its.toArray[i]?=some v) SS) (st:SS 0 ((s.heap.push (sr led)).push itO)) {R:cR->ae->Prop}
  (hR:∀h2 k2,(∃o es ep t,yU h2 s.heap.objs.size ((uqP L).map λq=>(TkS q.1,q.2)) led (uqP L).length o es ep t)->(∀b o,b<s.heap.objs.size->s.heap.get? b=some o->h2.get? b=some o)->R (.ok (.ret .none)) { s with heap:=h2,toks:=k2 }) (tk':Nat):
  bS (model prog w) A (.builtin "set.update.loop" ⟨[.ref s.heap.objs.size,.ref (s.heap.objs.size+1)],[]⟩) R { s with heap:=(s.heap.push (sr led)).push itO,toks:=tk' }:=by
 have notin:s.heap.objs.size∉[s.heap.objs.size+1,ax]:=by
  intro z;rcases aO.mp z with z|z
  ·exact ak z (aT (dS _))
  ·exact ak (aU.mp z) (iK hlt)
 have ke:∀{b:Addr} {o':Obj},s.heap.get? b=some o'->((s.heap.push (sr led)).push itO).get? b=some o':=λe=>aL _ (aL _ e);refine EF (S:=s.heap.objs.size) (led:=led) W.toS notin hu (L.map λq=>(TkS q.1,q.2)) (by rw[af,aS,li]) (by rw[Kl,af];exact h8) ?_ ?_ ?_ (its.toArray.size - 0) 0 _ (sr led) #[] 0 (.fresh 0 0 led) rfl (bW _) st ?_ ?_ λs2 o2 es2 ep2 t2 mv S2=>?_
 ·intro q hq;obtain⟨r,hr,rfl⟩:=az.mp hq;obtain⟨p,z,e⟩:=ht r hr;exact⟨p,[.inr z],by show TkS r.1=_;rw[e];rfl⟩
 ·intro q hq z;obtain⟨r,hr,rfl⟩:=az.mp hq;obtain⟨ob,_,_,e,_⟩:=tk r hr;have:=aI e;rcases aO.mp z with z|z
  ·exact ak z (aT this)
  ·exact ak (aU.mp z) (aT (dv this))
 ·intro i v e;rw[gZ]at e;obtain⟨q,e1,e2⟩:=ev i v e;exact⟨(TkS q.1,q.2),by rw[aZ,e1];rfl,e2⟩
 ·intro q hq;obtain⟨r,hr,rfl⟩:=az.mp hq;exact(tk r hr).kept λo=>ke
 ·exact⟨⟨aL _ (bA _ rfl),⟨rfl,rfl,rfl⟩,rfl,⟨7,⟨rfl,rfl,rfl⟩,.inl ⟨rfl,bW 4⟩⟩,rfl,λz=>ak z (dE 0),.nil⟩,⟨7,⟨⟨rfl,rfl,rfl⟩,.nil⟩,.inl ⟨rfl,bW 4⟩,λi e j he _=>by cases he⟩,.nil⟩
 ·obtain⟨h2,g2,d2,k2,o2'⟩:=s2;have eg:g2=s.gens:=mv.gens;have ed:d2=s.drawn:=mv.drawn;have eo:o2'=s.os:=mv.os;subst eg ed eo;rw[Kl,af]at S2;refine hR h2 k2 ⟨o2,es2,ep2,t2,⟨S2.at_,S2.ex,S2.d,S2.c,S2.led,S2.pl,S2.p⟩⟩ λb o hb e=>mv.heap b o (λz=>?_) (ke e);rcases aO.mp z with z|z
  ·exact ak z (aT hb)
  ·exact ak (aU.mp z) (aT (dv hb))
theorem Qd{A:av}{E:aa->ae->Prop}{Q:aa->ae->Prop}{a:Addr}{L:List (List Str×Addr)}(I:Inv X pins σ H s)(hh:A.handled=none)(hu:A.units+8<cLine)(hq:SqL X.K H a (L.map λq=>V.ref q.2)\/SqT X.K H a (L.map λq=>V.ref q.2))(h8:(uqP L).length<63)
  (ht:∀q∈L,∃p r,q.1=[p,r]/\SqT X.K H q.2 [.str p,.str r])
  (h:∀h2 k2 o es ep t,yU h2 s.heap.objs.size ((uqP L).map λq=>(TkS q.1,q.2)) (!X.w.params.followText "set-order") (uqP L).length o es ep t->(∀b o,b<s.heap.objs.size->s.heap.get? b=some o->h2.get? b=some o)->Q (.ref s.heap.objs.size) { s with heap:=h2,toks:=k2 }):
  ah (model X.prog X.w) A (call (.type "set") [.ref a]) Q E s:=by
 have h3:A.in1.in1.in1.handled=none:=by simp[hh]
 have h4:A.in1.in1.in1.units<cLine:=by show A.units+1+1+1<cLine;omega
 have tk:∀q∈L,TK X.prog X.w s.heap (TkS q.1) q.2:=λq hq=>by obtain⟨p,r,e,h1⟩:=ht q hq;rw[e];exact OZ (ks:=[.inr p,.inr r]) I h1
 have ev:∀{its:List aa},Vals (L.map λq=>V.ref q.2) its->L.length=its.length/\∀(i:Nat) (v:aa),its[i]?=some v->∃q,L[i]?=some q/\v=.ref q.2:=λ{its} r=>by
  have li:L.length=its.length:=by have:=r.length;rw[af]at this;exact this
  refine⟨li,λi v e=>?_⟩;have hi:i<L.length:=by rw[li];exact(bj.mp e).1
  obtain⟨u,e2,ru⟩:=r.get (i:=i) (x:=V.ref L[i].2) (by rw[aZ,aP hi];rfl);rw[e]at e2;cases e2;exact⟨L[i],aP hi,ru⟩
 have it:∀{o:Obj} {led:Bool},o.isFreed=false->((s.heap.push (sr led)).push o).get? (s.heap.objs.size+1)=some o:=λ{o led} z=>by rw[show s.heap.objs.size+1=(s.heap.push (sr led)).objs.size from(eK _ _).symm];exact bA _ z
 have ht':∀q∈L,∃p r,q.1=[p,r]:=λq hq=>by obtain⟨p,r,e,_⟩:=ht q hq;exact⟨p,r,e⟩
 rcases hq with hq|hq
 ·obtain⟨its,r,pp,_⟩:=I.list hq;obtain⟨o,ho,hc,n,hd⟩:=pp.isList;have hne:a≠s.heap.objs.size+1:=aT (dv (aI ho));exact vK (PS:=λh2=>∃o es ep t,yU h2 s.heap.objs.size ((uqP L).map λq=>(TkS q.1,q.2)) (!X.w.params.followText "set-order") (uqP L).length o es ep t) ho hc kz jA (by decide) (itO:={ cls:=.type "list_iterator", data:=.fields #[.ref a,.int 0 0] })
   (λA Q E s1 e k=>fB ⟨o,e,hc,n,hd⟩ k) (λtk' R hR=>GK (aI ho) ht' tk (ev r).2 (ev r).1 h8 h4 (gG h3 _ a hne its.toArray) ⟨⟨_,it rfl,rfl,rfl⟩,⟨o,aL _ (aL _ ho),hc,n,hd⟩⟩ hR tk') λh2 k2 ⟨o,es,ep,t,x⟩ kk=>h h2 k2 o es ep t x kk
 ·obtain⟨its,r,p,_⟩:=I.tuple hq;obtain⟨o,ho,hc,n,hd⟩:=p;have hne:a≠s.heap.objs.size+1:=aT (dv (aI ho));exact vK (PS:=λh2=>∃o es ep t,yU h2 s.heap.objs.size ((uqP L).map λq=>(TkS q.1,q.2)) (!X.w.params.followText "set-order") (uqP L).length o es ep t) ho hc sub_tuple_set sub_tuple_frozenset (by decide) (itO:={ cls:=.type "tuple_iterator", data:=.fields #[.ref a,.int 0 0] })
   (λA Q E s1 e k=>ib ⟨o,e,hc,n,hd⟩ k) (λtk' R hR=>GK (aI ho) ht' tk (ev r).2 (ev r).1 h8 h4 (lp h3 _ a hne its.toArray) ⟨⟨_,it rfl,rfl,rfl⟩,⟨o,aL _ (aL _ ho),hc,n,hd⟩⟩ hR tk') λh2 k2 ⟨o,es,ep,t,x⟩ kk=>h h2 k2 o es ep t x kk
end
variable{e:Expr}{f f':FE}
section
variable{X:Cx}{G:Bg}
def dStrI:D->Option D
 |.int i=>if i.natAbs.log2<1920 then some (.str (toString i))else none
 |_=>none
theorem pf_b2{r:List V->Hp->VK->Prop}{g:Int->Int->Int}(hr:∀i j H Q,Q (.int (g i j)) H->r [.int i,.int j] H Q)(h:PE X e (tCB r (tFA G (aCons f (aCons f' n6))))):PE X e (tF G (c2 (λx y=>match x,y with|.int i,.int j=>some (.int (g i j))|_,_=>none) f f')):=PE.weak h λσ H Q hh=>by
 obtain⟨F,ρ,H0,d,ρ',R,e,k⟩:=hh;obtain⟨x,y,ρ1,e1,e2,e3⟩:=zZ e;split at e3
 ·cases e3;rename_i i j;refine⟨F,ρ,H0,[.int i,.int j],ρ',R,by unfold aCons;rw[e1];simp only[e2];rfl,λys H1 H1' s R' rs=>?_⟩;unfold ny at rs;obtain⟨v,r0,rfl,rv,rn⟩:=rs;unfold ny at rn;obtain⟨v',r1,rfl,rv',rn'⟩:=rn;unfold ny at rn';subst rn';unfold Rep at rv rv';subst rv rv';exact hr i j _ _ (k _ _ _ s R' (o8 _))
 ·cases e3
def dMax2:D->D->Option D:=λx y=>match x,y with|.int i,.int j=>some (.int (if j > i then j else i))|_,_=>none
def dMin2:D->D->Option D:=λx y=>match x,y with|.int i,.int j=>some (.int (if j<i then j else i))|_,_=>none
def iR2(f f':FE):FA:=λρ=>match f ρ with
 |some (.int i,ρ1)=>match f' ρ1 with
  |some (.int j,ρ2)=>if (-1000000<=i/\i<=1000000)/\-1000000<=j/\j<=1000000 then some (va i (j - i).toNat,ρ2)else none
  |_=>none
 |_=>none
theorem pfi_range2{tg:Expr}(h:PI X tg e (JW (tFA G (aCons f (aCons f' n6))))):PI X tg e (tFI G (iR2 f f')):=PI.weak h λσ H R hh=>by
 obtain⟨F,ρ,H0,ds,ρ',R,e,k⟩:=hh;unfold iR2 at e;split at e
 ·rename_i i ρ1 e1;split at e
  ·rename_i j ρ2 e2;split at e
   ·rename_i hn;cases e;refine⟨F,ρ,H0,[.int i,.int j],_,R,by unfold aCons;rw[e1];simp only[e2];rfl,λxs H1 H1' s R' rs=>?_⟩;unfold ny at rs;obtain⟨v,r0,rfl,rv,rn⟩:=rs;unfold ny at rn;obtain⟨v',r1,rfl,rv',rn'⟩:=rn;unfold ny at rn';subst rn';unfold Rep at rv rv';subst rv rv';refine⟨i,j,rfl,⟨by omega,by omega,by omega,by omega⟩,?_⟩;exact k _ _ _ s R' A7
   ·cases e
  ·cases e
 ·cases e
end
section
variable{X:Cx}{B:Bz}{k:Nat}{e e' tg:Expr}{f f':FE}{p p2 p3 pos apos:Pos}
theorem zr_mxI [C:Cz X B k][N:Nb B "max"](hg:Gz X "max")(hs:aq [e,e'] X.env=[(false,eval e X.env),(false,eval e' X.env)])(hs':S1 X e')(ha:ZE X B e f)(hb:ZE X B e' f'):ZE X B (.Call (.Name "max" p) [e,e'] [] pos) (c2 dMax2 f f'):=
 ⟨pf_b2 (g:=λi j=>if j > i then j else i) (λi j H Q q=>⟨i,j,rfl,q⟩) (tZ (DV C.c) hg (C.mg▸N.p) boot_max (pE ha.p (pE hb.p rq hs') (by rw[hs,hs'])) (by decide) (by decide) (by rw[hs,hs']) (by rw[hs'];rfl))⟩
theorem zr_mnI [C:Cz X B k][N:Nb B "min"](hg:Gz X "min")(hs:aq [e,e'] X.env=[(false,eval e X.env),(false,eval e' X.env)])(hs':S1 X e')(ha:ZE X B e f)(hb:ZE X B e' f'):ZE X B (.Call (.Name "min" p) [e,e'] [] pos) (c2 dMin2 f f'):=
 ⟨pf_b2 (g:=λi j=>if j<i then j else i) (λi j H Q q=>⟨i,j,rfl,q⟩) (tZ (DW C.c) hg (C.mg▸N.p) boot_min (pE ha.p (pE hb.p rq hs') (by rw[hs,hs'])) (by decide) (by decide) (by rw[hs,hs']) (by rw[hs'];rfl))⟩
theorem zr_r2I [C:Cz X B k][N:Nb B "range"](hg:Gz X "range")(hs:aq [e,e'] X.env=[(false,eval e X.env),(false,eval e' X.env)])(hs':S1 X e')(ha:ZE X B e f)(hb:ZE X B e' f'):ZI X B tg (.Call (.Name "range" p) [e,e'] [] pos) (iR2 f f'):=⟨pfi_range2 (DT hg (C.mg▸N.p) (pE ha.p (pE hb.p rq hs') (by rw[hs,hs'])) hs hs')⟩
end
def tOr(t t':Ty->Option Bool):Ty->Option Bool:=λy=>match t y with
 |some true=>match t' y with
  |some _=>some true
  |none=>none
 |some false=>t' y
 |none=>none
section
variable{X:Cx}{B:Bz}{k i:Nat}{e:Expr}{f:FE}{a:FA}{x:Str}{p p2 p3 pos apos:Pos}
theorem zr_xsI{j:Int}{jj}(h:sees X i x=true)(he:ZE X B e f)(hs:swapsWithSole [.Subscript (.Name x p) (.Constant (.int j) jj p2) p3] e pos.line X.env=pure false)(hw:swappedStores [.Subscript (.Name x p) (.Constant (.int j) jj p2) p3] e X.env=pure none)
  (h1:(bR [.Subscript (.Name x p) (.Constant (.int j) jj p2) p3] X.env).map (·.2)=[assign (.Subscript (.Name x p) (.Constant (.int j) jj p2) p3) X.env]):ZS X B (.Assign [.Subscript (.Name x p) (.Constant (.int j) jj p2) p3] e pos) (sq i j f):=⟨Es (BG he.p (ET (pvI h) EN set_list) hs hw h1)⟩
theorem zr_xeI [C:Cz X B k](h:sees X i x=true)(hb:Az X (.Name x p) "extend")(hl:Ez apos pos)(hs:S1 X e)(ha:ZN X B e a):ZE X B (.Call (.Attribute (.Name x p) "extend" apos) [e] [] pos) (IG i a):=
 ⟨Ej (bmI hb hl hs gb f9 jP D5 (pvI h) (qg ha.p sX hs))⟩
end
section
variable{B:Bz}[Y:Yb B]{k np n:Nat}{b:FS}{x p:Str}{ps:List Str}{st s0:Stmt}{l:List Stmt}
theorem gM5(N:List Str){g:List D->List D->Option (D×List D)}(hg:g=fnM np n b)(q:GD B.G.K x st)(hl:nV st=s0::l)(hp:psO st=p::ps)(body:Bdz B N x st (s0::l) k b)(S:okO N (p::ps) st (np+1) n=true:=by kernel_rfl)(bd:Bds x x st (p::ps):=by (repeat intro _);rfl):Df B (k+1) x (spM B.G g):=
 ⟨_,gM hg Y.y q (okk S).1 (body.ok hl) (eR (okk S).2.1) (okk S).2.2 bd⟩
end
end L4
namespace L2
open PySem PySem.Spec PyProof.Rows PySem.W
abbrev vErr:List aa:=[.type "ValueError", .type "Exception", .type "BaseException", .type "object"]
def XC(K:aj)(C:Addr):Prop:=excIn K C vErr "ValueError.__new__" = true
theorem XC.obj{K:aj}{C:Addr}{h:Heap}(q:XC K C)(i:K.In h):OwnCls "x" C vErr "ValueError.__new__" (λ_=>some (.ref C)) h:=by
 refine⟨rfl,?_⟩;have q':excIn K C vErr "ValueError.__new__" = true:=q;unfold excIn at q';split at q'
 ·rename_i di dt sl lk;split at q'
  ·rename_i Cc tl a0 a1 a2 a3 nw a5 em es;simp only[aB,beq_iff_eq,cq]at q';obtain⟨⟨⟨⟨⟨h1,h2⟩,h3⟩,h4⟩,h5⟩,h6⟩:=q';cases dt with
   |mk nm bs mro ns qn hd sn sub ab col del=>cases h1;cases h2;have em':mro=_:=em;have hd':del=false:=h3;cases em';cases hd';obtain⟨ll⟩:=sl;have es':ll=_:=es;cases es';exact⟨tl,ns,nm,qn,bs,hd,sn,sub,ab,col,di,a0,a1,a2,a3,a5,_,i _ _ lk,.of_isNs (isNs_of_in i h5),nsMap_none_of_in i h5 h6,tail_of_in i h4⟩
  ·cases q'
 ·cases q'
structure Fly(P:ar)(w:ao)(C:Addr)(l:List Env)(H:Hp)(s:ae)(H':Hp)(a:Addr)(s':ae):Prop where
 ex:∃(B:Heap) (a0:aa),kY B l a (.ref C) a0 s'.heap/\HOk P w H' B/\∀b o,s.heap.get? b=some o->b∉frs l->∃o',B.get? b=some o'
 os:s'.os=s.os
 bare:cQ s'.gens
 un:Un (frs l) [] H H' s.heap s'.heap
def CXW(P:ar)(w:ao)(C:Addr):CXT:=λl H s E e s'=>∃a H',e=.ref a/\Fly P w C l H s H' a s'/\E e none H'
theorem un_step{l:List Env}{H H':Hp}{h h1 h2 B:Heap}(kb:∀b o,h.get? b=some o->b∉frs l->∃o',B.get? b=some o')(st:B.StaysIn h1)(st2:B.StaysIn h2)(ff:h1.FunFrames B l)(up:h1.UpToSlots h2)(u:Un (frs l) [] H H' h h1):Un (frs l) [] H H' h h2 where
 keep:=λb o q n hb hx=>by obtain⟨o',e⟩:=kb b o q hb;have e1:=u.keep b o q n hb hx;have e2:=st b o' e;rw[e1]at e2;cases e2;exact st2 b _ e
 slot:=λb o q n hb hx=>by obtain⟨sl,e1⟩:=u.slot b o q n hb hx;obtain⟨_,o1,e2,d⟩:=ff.mem hb;rw[e1]at e2;cases e2;obtain⟨sl',e3⟩:=up b _ e1 d;exact⟨sl',e3⟩
 free:=u.free
 there:=λb o q hx=>by
  by_cases hb:b∈frs l
  ·obtain⟨_,o1,e2,d⟩:=ff.mem hb;obtain⟨sl',e3⟩:=up b _ e2 d;exact⟨_,e3⟩
  ·obtain⟨o',e⟩:=kb b o q hb;exact⟨o',st2 b _ e⟩
 tups:=u.tups
 frzs:=u.frzs
 tbls:=u.tbls
variable{pins:List (Addr×Obj)}{σ:St}{H1:Hp}{s1:ae}
section
variable{P:ar}{w:ao}{K:aj}{mg:Str->Option aa}{base:Heap}{N:List Str}{qual:Str}{scope:bT}{f C:Addr}{cd:aa}{A:av}{outer:List Env}{s:ae}{H:Hp}{E:XK}
abbrev cxW(C:Addr)(P:ar)(w:ao)(K:aj)(mg:Str->Option aa)(base:Heap)(N:List Str)(qual:Str)(scope:bT)(f:Addr)(cd:aa)(A:av)(outer:List Env)(s:ae)(H:Hp)(E:XK):Cx:=zM (CXW P w C) P w K mg base N qual scope f cd A outer s H E
theorem kb_out{B:Heap}(I:Inv (cxW C P w K mg base N qual scope f cd A outer s H E) pins σ H1 s1)(kb:∀b o,s1.heap.get? b=some o->b∉frs (cxW C P w K mg base N qual scope f cd A outer s H E).stack->∃o',B.get? b=some o'):
  ∀b o,s.heap.get? b=some o->b∉frs outer->∃o',B.get? b=some o':=λb o q hb=>by
 obtain⟨o1,e1⟩:=I.base.there b o q (λz=>nomatch z);refine kb b o1 e1 λhm=>?_;rcases aO.mp (I.stkSub b hm)with z|z
 ·exact ak (bJ (aI q) I.ok.above) (by rw[z];exact dE _)
 ·exact hb z
theorem pass_body:Passes (CXW P w C) (cxW C P w K mg base N qual scope f cd A outer s H E) (λ_ _ H'=>∀e,E e none H'):=λpins σ H1 s1 e s' I h=>by obtain⟨a,H',rfl,fl,z⟩:=h;obtain⟨B,a0,hf,hok,kb⟩:=fl.ex;refine wpAny_leaves_onW I.ok.frames rfl hf λh2 hf2 up=>?_;have u:=un_step kb hf.1 hf2.1 hf.2.2.1 up fl.un;have J:=I.call' (s':={ s' with heap:=h2 }) (ch:=[]) fl.os u (hok.kept hf2.1) fl.bare λ_ z=>nomatch z;exact⟨a,H',rfl,⟨⟨B,a0,hf2,hok,kb_out I kb⟩,J.os,J.bare,J.base⟩,z _⟩
theorem made_body{a:Addr}{vs:List aa}{h':Heap}(I:Inv (cxW C P w K mg base N qual scope f cd A outer s H E) pins σ H1 s1)(hx:kC s1.heap h' a (.ref C) vs)(z:∀e,E e none H1):
  (cxW C P w K mg base N qual scope f cd A outer s H E).xe (.ref a) { s1 with heap:=h' }:=by
 have hin:∀env∈(cxW C P w K mg base N qual scope f cd A outer s H E).stack,∀b,env.frame=some b->b∈frs (cxW C P w K mg base N qual scope f cd A outer s H E).stack:=λenv he b hb=>eD.mpr ⟨env,he,hb⟩;have ff:=funFrames_hide I.stack hin;have kb:∀b o,s1.heap.get? b=some o->b∉frs (cxW C P w K mg base N qual scope f cd A outer s H E).stack->∃o',(hideAll s1.heap (frs (cxW C P w K mg base N qual scope f cd A outer s H E).stack)).get? b=some o':=λb o q n=>⟨o,iP _ q n⟩;have hok:HOk P w H1 (hideAll s1.heap (frs (cxW C P w K mg base N qual scope f cd A outer s H E).stack)):=λb o e=>(I.hok b o e).stay (λc u hc q=>iP _ q λhm=>by
  have n:=I.stkFree c hm;rcases hc with rfl|hc
  ·rw[e]at n;cases n
  ·rw[hc]at n;cases n) (λ_ q=>q) λ_ _ q=>q
 refine wpAny_leaves_madeW (h:=s1.heap) I.ok.frames rfl (λb o q=>iY _ q) ff hx λh2 t hf2 _ _ up=>?_;have u:=un_step kb (λb o q=>hx.keeps b o (iY _ q)) hf2.1 (ff.of_keeps λb o q _=>⟨o,hx.keeps b o q,rfl⟩) up (Un.kept (fs:=frs (cxW C P w K mg base N qual scope f cd A outer s H E).stack) (ex:=[]) (H:=H1) hx.keeps);have J:=I.call' (s':={ s1 with heap:=h2 }) (ch:=[]) rfl u (hok.kept hf2.1) I.bare λ_ z=>nomatch z;exact⟨a,H1,rfl,⟨⟨_,_,hf2,hok,kb_out I kb⟩,J.os,J.bare,J.base⟩,z _⟩
end
def Mades(X:Cx)(C:Addr)(Z:Hp->Prop):Prop:=∀(pins:List (Addr×Obj)) (σ:St) (H:Hp) (s:ae) (a:Addr) (vs:List aa) (h':Heap),Inv X pins σ H s->kC s.heap h' a (.ref C) vs->Z H->X.xe (.ref a) { s with heap:=h' }
section
variable{X:Cx}{C:Addr}{Z:Hp->Prop}{x:Str}{np cpos pos:Pos}{e:Expr}{es:List Expr}{t:TA}
theorem ps_raise(q:XC X.K C)(hc:X.calm=true)(hm:X.mg x=some (.ref C))(mk:Mades X C Z)(ha:PA X (e::es) t)(hg:Gl X x)(hdb:(x==("__debug__" : Str))=false)(he:aq (e::es) X.env=(false,eval e X.env)::aq es X.env)(hpl:(aX cpos (aq es X.env)).any (·.1)=false):
  PS X (.Raise (some (.Call (.Name x np) (e::es) [] cpos)) none pos) (λ_ σ H=>t σ H λvs H1=>vs.length<=ay/\Z H1):=by
 intro pins s σ H D I h;obtain⟨bm,N,nm,qn,bs,hd,sn,sub,ab,col,dd,k0,k1,k2,k3,k5,mN,hC,hN,hni,T⟩:=(q.obj I.mod.kin).obj;have hb:bm.contains (.type "BaseException")=true:=T.hasType (b:=true) rfl;refine wpAny_Raise_call_subU (nm:=nm) (q:=qn) (N:=N) (bs:=bs) (hdct:=hd) (sn:=sn) (sub:=sub) (ab:=ab) (col:=col) (dd:=dd) (k0:=k0) (k1:=k1) (k2:=k2) (k3:=k3) (k5:=k5) jC rfl jC hb (I.ok.hd hc) (by rw[he];show (false||(aX cpos (aq es X.env)).any (·.1))=false;rw[hpl];rfl) hni (sV I hg hm ⟨rfl,?_⟩ hdb)
 rw[he];have h2:=ha cpos pins s σ H _ I h;rw[he]at h2;refine hG (thn h2 λus s2 zz=>?_);obtain⟨vs,H2,I2,r,l2,z⟩:=zz;refine⟨rfl,by rw[<-r.length];exact l2,I2.bk _ _ hC,hN.keeps I2.bk,T.keeps I2.bk,λh' a hx=>mk pins σ H2 s2 a us h' I2 hx z⟩
end
abbrev Cx.caught(X:Cx)(v:aa):Cx:={ X with A:=X.A.mark (some v),calm:=false,xe:=λ_ _=>False }
theorem Inv.caught{X:Cx}{H:Hp}{s:ae}(I:Inv X pins σ H s)(v:aa):Inv (X.caught v) pins σ H s:=
 ⟨⟨I.ok.mod,I.ok.kind,I.ok.glob,I.ok.blt,I.ok.above,I.ok.inj,I.ok.has,I.ok.cab,(λz=>by cases z),I.ok.frames,I.ok.stk,I.ok.exf,I.ok.bs,I.ok.bsz,I.ok.noex,I.ok.exfs,I.ok.funs,I.ok.frf⟩,I.os,I.bare,I.base,I.loc,I.cell,I.free,I.freeC,I.pin,I.hok,I.len⟩
variable{fl:Flow}{xe:aa->ae->Prop}
section
variable{X:Cx}{pins:List (Addr×Obj)}{σ:St}{H:Hp}{s:ae}
theorem Inv.uncaught{v:aa}(ok:X.Ok)(I:Inv (X.caught v) pins σ H s):Inv X pins σ H s:=⟨ok,I.os,I.bare,I.base,I.loc,I.cell,I.free,I.freeC,I.pin,I.hok,I.len⟩
theorem SP.uncaught{v:aa}{D:Ends}(ok:X.Ok)(h:SP (X.caught v) pins D fl s):SP X pins D fl s:=by
 cases fl with
 |next=>obtain⟨σ',H',I,q⟩:=h;exact⟨σ',H',I.uncaught ok,q⟩
 |brk=>obtain⟨σ',H',I,q⟩:=h;exact⟨σ',H',I.uncaught ok,q⟩
 |cont=>obtain⟨σ',H',I,q⟩:=h;exact⟨σ',H',I.uncaught ok,q⟩
 |ret u=>obtain⟨v,σ',H',I,r,q⟩:=h;exact⟨v,σ',H',I.uncaught ok,r,q⟩
theorem PA.lift{es:List Expr}{t:TA}(h:PA X es t)(n:∀e s,¬X.xe e s):PA (X.wish xe) es t:=λpos pins s σ H Q I hw=>
 bx (h pos pins s σ H Q I.unwish hw) (λ_ _ ⟨v,H',I',r,q⟩=>⟨v,H',I'.wish xe,r,q⟩) λe s z=>(n e s z).elim
theorem PT.lift{e:Expr}{t:TT}(h:PT X e t)(n:∀e s,¬X.xe e s):PT (X.wish xe) e t:=λpins s σ H Q I hw=>
 bx (h pins s σ H Q I.unwish hw) (λ_ _ ⟨H',I',q⟩=>⟨H',I'.wish xe,q⟩) λe s z=>(n e s z).elim
theorem SP.wish{D:Ends}(xe:aa->ae->Prop)(h:SP X pins D fl s):SP (X.wish xe) pins D fl s:=by
 cases fl with
 |next=>obtain⟨σ',H',I,q⟩:=h;exact⟨σ',H',I.wish xe,q⟩
 |brk=>obtain⟨σ',H',I,q⟩:=h;exact⟨σ',H',I.wish xe,q⟩
 |cont=>obtain⟨σ',H',I,q⟩:=h;exact⟨σ',H',I.wish xe,q⟩
 |ret u=>obtain⟨v,σ',H',I,r,q⟩:=h;exact⟨v,σ',H',I.wish xe,r,q⟩
theorem PS.lift{st:Stmt}{t:TS}(h:PS X st t)(n:∀e s,¬X.xe e s):PS (X.wish xe) st t:=λpins s σ H D I hw=>
 bx (h pins s σ H D I.unwish hw) (λ_ _ q=>q.wish xe) λe s z=>(n e s z).elim
end
section
variable{X:Cx}{CX:CXT}{k:Nat}{f C C0:Addr}{fd:bo}{ps:List Str}{sp:Sp}{dvs:List V}{ds:List aa}{E:XK}{x y:Str}{p np pos pos1 pos2 hp:Pos}{e:Expr}{es:List Expr}{t:TA}{b0:Stmt}{suite:List Stmt}{th:TS}
theorem run_makeX{H:Hp}{s:ae}{Q:VK}{us:List aa}{vs:List V}(M:Mk X.K C0 f)(F:qu X.prog X.w X.K X.mg X.base CX k f fd ps sp)(hr:oQ (k+1) X.A)(hb:Binds X.K fd ps ds)(hd:Vals dvs ds)
  (hx:∀H2 s2 e s',Inv X pins σ H2 s2->CX X.stack H2 s2 E e s'->X.xe e s') (I:Inv X pins σ H s) (r:Vals vs us)
  (h:∀x dx,H x=none->H dx=none->dx≠x->sp (.ref x::(vs++dvs)) (upd (upd H dx (.own x)) x (.ins C0 dx [])) (λv H2=>v=.non/\Q (.ref x) H2) E):
  ah (model X.prog X.w) X.A (call (.ref C0) us) (EP X pins σ Q) X.xe s:=by
 have hq:=h (s.heap.objs.size+1) s.heap.objs.size (I.hok.fresh (gz _)) (I.hok.fresh (aA _)) (aT (dS _));have I2:=Inv.made (C:=C0) I;have r2:Vals (V.ref (s.heap.objs.size+1)::(vs++dvs)) (Value.ref (s.heap.objs.size+1)::(us++ds)):=.cons rfl (r.append hd);have hl:(Value.ref (s.heap.objs.size+1)::us++ds).length=ps.length:=by have e:=r2.length;rw[F.len _ _ _ _ hq]at e;exact e.symm
 refine gB (AJ (f:=f) I.kIn M.makes M.init (beq_iff_eq.mp M.fn) (d6 (F.run _ X.stack _ _ ⟨Value.ref (s.heap.objs.size+1)::us,[]⟩ (Value.ref (s.heap.objs.size+1)::(us++ds)) _ _ E (hr.make C0 us [])
  (I2.env0.make C0 us []) (hb _ (Value.ref (s.heap.objs.size+1)::us) I2.kIn hl) r2 hq) λr s' hq'=>?_))
 cases r with
 |error e=>exact hx _ _ e s' I2 hq'
 |ok fl=>
  cases fl with
  |ret u=>obtain⟨v,H',I3,rv,ev,q3⟩:=I2.after hq';subst ev;exact⟨rv,⟨V.ref (s.heap.objs.size+1),H',I3,rfl,q3⟩⟩
  |next=>exact bN hq'
  |brk=>exact bN hq'
  |cont=>exact bN hq'
theorem ps_try(hst:X.stack=X.env::X.outer)(hfm:X.env.frame=some X.env.locals)(hn0:∀e s,¬X.xe e s)(q:XC X.K C)(hg':Gl X y)(hm':X.mg y=some (.ref C))(hdb':(y==("__debug__" : Str))=false)
  (M:Mk X.K C0 f) (F:qu X.prog X.w X.K X.mg X.base (CXW X.prog X.w C) k f fd ps sp) (hr:oQ (k+1) X.A) (hb:Binds X.K fd ps ds) (hd:Vals dvs ds) (hg:Gl X x) (hm:X.mg x=some (.ref C0)) (ha:PA X (e::es) t) (hdb:(x==("__debug__" : Str))=false)
  (he:aq (e::es) X.env=(false,eval e X.env)::aq es X.env) (hpl:(aX pos (aq es X.env)).any (·.1)=false) (hsw:bX (.Call (.Name x p) (e::es) [] pos) none pos1.line X.env=pure false) (hs:∀v,PSs (X.caught v) (b0::suite) th):
  PS X (.Try [.Expr (.Call (.Name x p) (e::es) [] pos) pos1] [.ExceptHandler (some (.Name y np)) none (b0::suite) hp] [] [] pos2) (λD σ H=>CC C0 sp dvs (λ_ _ H'=>th D σ H') t σ H λ_ H1=>D.nx σ H1):=by
 intro pins s σ H D I h;refine wpAny_Try_except ?_;let XE:aa->ae->Prop:=λe s₁=>ah (model X.prog X.w) X.A (noteFrame e X.env) (λ_ s₂=>ah (model X.prog X.w) X.A (setFlight e none) (λ_ s₃=>ah (model X.prog X.w) X.A (handleBy e X.env [.ExceptHandler (some (.Name y np)) none (b0::suite) hp]) (SP X pins D) X.xe s₃) X.xe s₂) X.xe s₁;have hx:∀H2 s2 e s',Inv (X.wish XE) pins σ H2 s2->CXW X.prog X.w C X.stack H2 s2 (λ_ _ H'=>th D σ H') e s'->XE e s':=by
  intro H2 s2 ev s' J hc;obtain⟨a,H',rfl,fl,z⟩:=hc;obtain⟨B,a0,hf,hok,kb⟩:=fl.ex;have hfr:X.A.frames=some (X.env::X.outer):=by rw[<-hst];exact I.ok.frames
  have hf':kY B (X.env::X.outer) a (.ref C) a0 s'.heap:=by rw[<-hst];exact hf
  refine wpAny_looks_onW hfr hfm hf' λh4 hh4 up4=>wpAny_landsW hh4 λh5 hf5 up5=>?_;have u5:=un_step kb hf.1 hf5.1 hf.2.2.1 (up4.trans up5) fl.un;have J5:=(J.call' (s':={ s' with heap:=h5 }) (ch:=[]) fl.os u5 (hok.kept hf5.1) fl.bare λ_ z=>nomatch z).unwish;refine wpAny_handleBy_cons (codeAny_handlers_test (sV (X:=X.caught (.ref a)) (J5.caught _) hg' hm' ?_ hdb')) (by intro q;cases q);obtain⟨bm,N,nm,qn,bs,hd,sn,sub,ab,col,dd,k0,k1,k2,k3,k5,mN,hC,hN,hni,T⟩:=(q.obj I.mod.kin).obj;have hbm:bm.contains (.type "BaseException")=true:=T.hasType (b:=true) rfl;obtain⟨ob,hob,hobc⟩:=hf5.there;refine wpAny_excMatches_sub_self (J5.bk _ _ hC) hob hobc hbm (codeAny_handlers_suite ?_);refine lands_againW hf5 λh6 hf6 up6=>?_;have u6:=un_step kb hf.1 hf6.1 hf.2.2.1 ((up4.trans up5).trans up6) fl.un;have J6:=(J.call' (s':={ s' with heap:=h6 }) (ch:=[]) fl.os u6 (hok.kept hf6.1) fl.bare λ_ z=>nomatch z).unwish;exact bx (hs (.ref a) pins _ σ H' D (J6.caught _) z) (λfl s7 hq=>hq.uncaught I.ok) λ_ _ z=>z.elim
 have key:ah (model X.prog X.w) X.A (eval (.Call (.Name x p) (e::es) [] pos) X.env) (EP (X.wish XE) pins σ λ_ H1=>D.nx σ H1) XE s:=by refine dq (sV I hg hm ?_ hdb);refine gu (h₀:=X.base) I.ok.mod.kin M.kp (thn ((ha.lift hn0) pos pins s σ H _ (I.wish XE) h) λus s1 ⟨vs,H1,I1,r,q⟩=>⟨I1.kIn,?_⟩) he hpl;exact run_makeX (X:=X.wish XE) M F hr hb hd hx I1 r q
 have key2:ah (model X.prog X.w) X.A (exec (.Expr (.Call (.Name x p) (e::es) [] pos) pos1) X.env) (SP X pins D) XE s:=ku (thn key λv s1 ⟨x,H1,I1,r1,q1⟩=>⟨σ,H1,I1.unwish,q1⟩) I.quiet hsw;refine iu (thn key2 λf s1 q=>?_);cases f with
 |next=>exact fH (fH q)
 |ret v=>exact q
 |brk=>exact q
 |cont=>exact q
end
end L2
namespace L4
open PySem PySem.Spec PyProof.Rows L2 L3
def zE(E:Ends)(Z:Hp->Prop):Ends:={ nx:=E.nx,rt:=E.rt,bk:=λ_ H=>Z H,ct:=E.ct }
def tFX(G:Bg)(Z:Hp->Prop)(f:FS):TS:=λE σ H=>tFS G f (zE E Z) σ H
def sNb(f:FS):FS:=λρ=>match f ρ with
 |some (.bk _)=>none
 |r=>r
def sRz(a:FA):FS:=λρ=>match a ρ with
 |some ([_],ρ')=>some (.bk ρ')
 |_=>none
def sXp(g:List D->Option Bool)(a:FA):FS:=λρ=>match a ρ with
 |some (ds,ρ')=>match g ds with
  |some true=>some (.nx ρ')
  |some false=>some (.bk ρ')
  |none=>none
 |none=>none
def fnX(np n:Nat)(f:FS):List D->Option Bool:=λds=>if ds.length=np then match f (stE n ds)with
 |some (.nx _)=>some true
 |some (.bk _)=>some false
 |_=>none
 else none
def fnXI(c np n:Nat)(f:FS):List D->Option (Option (List Str×List D)):=λds=>if ds.length=np then match f (stI c n ds)with
 |some (.bk _)=>some none
 |some (.nx _)=>match fnI c np n f ds with
  |some r=>some (some r)
  |none=>none
 |_=>none
 else none
def sTry(g:List D->Option (Option (List Str×List D)))(a:FA)(fh:FS):FS:=λρ=>match a ρ with
 |some (ds,ρ')=>match g ds with
  |some (some _)=>some (.nx ρ')
  |some none=>fh ρ'
  |none=>none
 |none=>none
def spX(G:Bg)(g:List D->Option Bool):Sp:=λvs H Q E=>∃H0 ds d,nE H0 H/\ny G H0 ds vs/\g ds=some d/\
 (d=true->∀H0' H',nE H0 H0'->nE H0' H'->nE H H'->(∀b o,H0' b=some o->H0 b=some o\/H b=none)->Q .non H')/\(d=false->∀e H',nE H H'->E e none H')
def spXI(G:Bg)(c:Nat)(g:List D->Option (Option (List Str×List D))):Sp:=λvs H Q E=>∃(p dx:Addr) (us:List V) (H0:Hp) (ds:List D),vs=.ref p::us/\H p=some (.ins (G.ca c) dx [])/\H0 p=none/\nE H0 H/\ny G H0 ds us/\
 ((∃ns es,g ds=some (some (ns,es))/\∀ys dx' H0' H',nE H0 H0'->nE H0' H'->(∀b o,H b=some o->b≠p->H' b=some o)->(∀b o,H0' b=some o->H0 b=some o\/H b=none)->H0' p=none->H' p=some (.ins (G.ca c) dx' (ns.zip ys))->ns.length=ys.length->ny G H0' es ys->Q .non H')
  \/ (g ds=some none/\∀e H',(∀b o,H b=some o->b≠p->H' b=some o)->E e none H'))
variable{c np:Nat}{ds:List D}{N:List Str}{vs:List V}{E:XK}
section
variable{X:Cx}{G:Bg}{Z:Hp->Prop}
theorem tFS_zE{f:FS}{Q:VK}{nx:St->Hp->Prop}{σ:St}{H:Hp}(h:tFS G f { nx:=nx,rt:=Q } σ H):tFX G Z f { nx:=nx,rt:=Q } σ H:=by
 obtain⟨F,ρ,H0,o,R,e,k,_⟩:=h;refine⟨F,ρ,H0,o,R,e,?_,λ_=>rfl⟩;cases o with
 |bk ρ'=>exact λσ' H0' H' s' R'=>(k σ' H0' H' s' R').elim
 |nx ρ'=>exact k
 |ct ρ'=>exact k
 |rt d ρ'=>exact k
 |rn d ρ'=>exact k
theorem pfx_nil:PSs X [] (tFX G Z oY):=PSs.weak Ct λE σ H h=>Fo (E:=zE E Z) h
theorem pfx_cons{st:Stmt}{rest:List Stmt}{f g:FS}(h1:PS X st (tFX G Z f))(h2:PSs X rest (tFX G Z g)):PSs X (st::rest) (tFX G Z (nz f g)):=PSs.weak (vv h1 h2) λE σ H h=>by
 obtain⟨F,ρ,H0,o,R,e,k,k2⟩:=h;unfold nz at e;cases e1:f ρ with
 |none=>simp only[e1]at e;cases e
 |some o1=>
  cases o1 with
  |nx ρ1=>simp only[e1]at e;exact⟨F,ρ,H0,_,R,e1,λσ' H0' H' s R'=>⟨F,ρ1,H0',o,R',e,k.back s,λ_=>rfl⟩,λ_=>rfl⟩
  |bk ρ1=>simp only[e1]at e;cases e;exact⟨F,ρ,H0,_,R,e1,k,λ_=>rfl⟩
  |ct ρ1=>simp only[e1]at e;cases e;exact⟨F,ρ,H0,_,R,e1,k,λ_=>rfl⟩
  |rt d ρ1=>simp only[e1]at e;cases e;exact⟨F,ρ,H0,_,R,e1,k,λ_=>rfl⟩
  |rn d ρ1=>simp only[e1]at e;cases e;exact⟨F,ρ,H0,_,R,e1,k,λ_=>rfl⟩
theorem pfx_up{st:Stmt}{f:FS}(h:PS X st (tFS G f)):PS X st (tFX G Z (sNb f)):=PS.weak h λE σ H hh=>by
 obtain⟨F,ρ,H0,o,R,e,k,_⟩:=hh;unfold sNb at e;cases e1:f ρ with
 |none=>simp only[e1]at e;cases e
 |some o1=>
  cases o1 with
  |bk ρ1=>simp only[e1]at e;cases e
  |nx ρ1=>simp only[e1]at e;cases e;exact⟨F,ρ,H0,_,R,e1,k,λ_=>rfl⟩
  |ct ρ1=>simp only[e1]at e;cases e;exact⟨F,ρ,H0,_,R,e1,k,λ_=>rfl⟩
  |rt d ρ1=>simp only[e1]at e;cases e;exact⟨F,ρ,H0,_,R,e1,k,λ_=>rfl⟩
  |rn d ρ1=>simp only[e1]at e;cases e;exact⟨F,ρ,H0,_,R,e1,k,λ_=>rfl⟩
theorem pfx_if{c:Expr}{a b:List Stmt}{h:FT}{f g:FS}{pos:Pos}(hc:PT X c (tFT G h))(ha:PSs X a (tFX G Z f))(hb:PSs X b (tFX G Z g)):PS X (.If c a b pos) (tFX G Z (sIf h f g)):=PS.weak (JT hc ha hb) λE σ H hh=>by
 obtain⟨F,ρ,H0,o,R,e,k,k2⟩:=hh;unfold sIf at e;rcases nN (f:=h) (ρ:=ρ)with e1|⟨d,ρ',e1⟩
 ·simp only[e1]at e;cases e
 ·refine⟨F,ρ,H0,d,ρ',R,e1,λH0' H' s R'=>?_⟩;cases d with
  |true=>simp only[e1]at e;exact zW ⟨F,ρ',H0',o,R',e,k.back s,λ_=>rfl⟩
  |false=>simp only[e1]at e;exact zV ⟨F,ρ',H0',o,R',e,k.back s,λ_=>rfl⟩
theorem pfx_raise{st:Stmt}{a:FA}(h:PS X st (λ_ σ H=>tFA G a σ H λvs H1=>vs.length<=ay/\Z H1)):PS X st (tFX G Z (sRz a)):=PS.weak h λE σ H hh=>by
 obtain⟨F,ρ,H0,o,R,e,k,k2⟩:=hh;unfold sRz at e;split at e
 ·rename_i d ρ' e1;cases e;refine⟨F,ρ,H0,_,ρ',R,e1,λxs H0' H' s R' rs=>⟨?_,k σ H0' H' s R'⟩⟩;rw[<-nu rs];show 1<=ay;decide
 ·cases e
theorem pfx_call{st:Stmt}{g:List D->Option Bool}{a:FA}(h:PS X st (ER (tY (spX G g) [] (λ_ _ H'=>Z H') (tFA G a)))):PS X st (tFX G Z (sXp g a)):=PS.weak h λE σ H hh=>by
 obtain⟨F,ρ,H0,o,R,e,k,k2⟩:=hh;unfold sXp at e;rcases nN (f:=a) (ρ:=ρ)with e1|⟨ds,ρ',e1⟩<;>simp only[e1]at e
 ·cases e
 ·refine⟨F,ρ,H0,ds,ρ',R,e1,λxs H1 H1' s R' rs=>?_⟩;cases e2:g ds with
  |none=>simp only[e2]at e;cases e
  |some d=>
   refine⟨H1,ds,d,R'.sub,by rw[bh];exact rs,e2,λhd H2 H2' s1 s2 s3 fr=>?_,λhd ev H2' s3=>?_⟩
   ·subst hd;simp only[e2]at e;cases e;exact k σ H2 H2' (s.trans s1) (R'.grow s3 s1 s2 fr)
   ·subst hd;simp only[e2]at e;cases e;exact k σ H1 H2' s (R'.grow s3 (nE.refl _) (R'.sub.trans s3) λb o e=>.inl e)
theorem pfx_try{st:Stmt}{g:List D->Option (Option (List Str×List D))}{a:FA}{fh:FS}(h:PS X st (λD σ H=>CC (G.ca c) (spXI G c g) [] (λ_ _ H'=>tFS G fh D σ H') (tFA G a) σ H λ_ H1=>D.nx σ H1)):PS X st (tFS G (sTry g a fh)):=PS.weak h λE σ H hh=>by
 obtain⟨F,ρ,H0,o,R,e,k,k2⟩:=hh;unfold sTry at e;rcases nN (f:=a) (ρ:=ρ)with e1|⟨ds,ρ',e1⟩<;>simp only[e1]at e
 ·cases e
 ·refine⟨F,ρ,H0,ds,ρ',R,e1,λxs H1 H1' s R' rs x dx hx hdx ne=>?_⟩;have hx2:(upd H1' dx (.own x)) x=none:=by rw[nH (λz=>ne z.symm)];exact hx
  have sx:nE H1' (upd (upd H1' dx (.own x)) x (.ins (G.ca c) dx [])):=(nQ hdx _).trans (nQ hx2 _);refine⟨x,dx,_,H1,ds,rfl,nI,R'.h0none hx,R'.sub.trans sx,by rw[bh];exact rs,?_⟩;cases e2:g ds with
  |none=>simp only[e2]at e;cases e
  |some r=>
   cases r with
   |none=>simp only[e2]at e;refine .inr ⟨rfl,λev H2' t3=>?_⟩;have t4:nE H1' H2':=λb o e=>t3 b o (sx b o e) (o3 e hx);exact⟨F,ρ',H1,o,R'.grow t4 (nE.refl _) (R'.sub.trans t4) (λb o e=>.inl e),e,k.back s,λ_=>rfl⟩
   |some q=>
    obtain⟨ns,es⟩:=q;simp only[e2]at e;cases e;refine .inl ⟨ns,es,rfl,λys dx' H2 H2' t1 t2 t3 fr h0 hp hl ry=>⟨rfl,?_⟩⟩;have t4:nE H1' H2':=λb o e=>t3 b o (sx b o e) (o3 e hx);have fr1:∀b o,H2 b=some o->H1 b=some o\/H1' b=none:=λb o e=>by
     rcases fr b o e with q|q
     ·exact .inl q
     ·cases z:H1' b with
      |none=>exact .inr rfl
      |some u=>rw[sx b u z]at q;cases q
    exact k σ H2 H2' (s.trans t1) (R'.grow t4 t1 t2 fr1)
theorem fnX_some{n:Nat}{f:FS}{d:Bool}(h:fnX np n f ds=some d):ds.length=np/\((∃ρ,f (stE n ds)=some (.nx ρ)/\d=true)\/∃ρ,f (stE n ds)=some (.bk ρ)/\d=false):=by
 unfold fnX at h;split at h
 ·rename_i hl;refine⟨hl,?_⟩;split at h
  ·rename_i e;cases h;exact .inl ⟨_,e,rfl⟩
  ·rename_i e;cases h;exact .inr ⟨_,e,rfl⟩
  ·cases h
 ·cases h
theorem entry_X{f:FS}{H:Hp}{Q:VK}(hN:np<=N.length)(h:spX G (fnX np N.length f) vs H Q E):tFX G (λH'=>∀e,E e none H') f { nx:=λ_ H'=>Q .non H',rt:=Q } (L2.start N vs) H:=by
 obtain⟨H0,ds,d,s,r,e,k1,k2⟩:=h;obtain⟨hl,e'⟩:=fnX_some e;have R:=wc (N:=N) s r (by rw[<-nu r,hl];exact hN);have fin:∀{σ':St} {ρ':List Sl} {H0' H':Hp},nM G ⟨H0,H,[]⟩ σ' ρ' H0' H'->nE H H'/\nE H0' H'/\∀b o,H0' b=some o->H0 b=some o\/H b=none:=λR'=>⟨λb o e=>R'.keep b o e (by simp),R'.sub,R'.fr⟩;clear e;rcases e' with ⟨ρ,e,rfl⟩|⟨ρ,e,rfl⟩
 ·refine⟨_,_,H0,_,R,e,λσ' H0' H' s' R'=>?_,λ_=>rfl⟩;obtain⟨h1,h2,h3⟩:=fin R';exact k1 rfl H0' H' s' h2 h1 h3
 ·refine⟨_,_,H0,_,R,e,λσ' H0' H' s' R' ev=>?_,λ_=>rfl⟩;exact k2 rfl ev H' (fin R').1
theorem len_X{g:List D->Option Bool}(hg:∀ds d,g ds=some d->ds.length=np):∀vs H Q E,spX G g vs H Q E->vs.length=np:=λvs H Q E h=>by obtain⟨H0,ds,d,_,r,e,_⟩:=h;rw[<-nu r];exact hg _ _ e
theorem relI{p dx:Addr}{us:List V}{H0 H:Hp}(hN:us.length+1<=N.length)(hp:H p=some (.ins (G.ca c) dx []))(h0:H0 p=none)(s:nE H0 H)(r:ny G H0 ds us):nM G ⟨H0,H,[p]⟩ (L2.start N (.ref p::us)) (stI c N.length ds) H0 H:=by
 have gets:∀{i:Nat} {t:Sl},(stI c N.length ds)[i]?=some t->(i=0/\t=.ob c [] [])\/t=.un\/∃(j:Nat) (d:D),i=j+1/\ds[j]?=some d/\t=.im d:=λ{i t} e=>by
  cases i with
  |zero=>cases e;exact .inl ⟨rfl,rfl⟩
  |succ j=>
   have e':(stE (N.length - 1) ds)[j]?=some t:=e;rcases vE e' with rfl|⟨d,e1,rfl⟩
   ·exact .inr (.inl rfl)
   ·exact .inr (.inr ⟨j,d,rfl,e1,rfl⟩)
 exact {
  sub:=s
  g0:=nE.refl _
  keep:=λb o e _=>e
  fr:=λb o e=>.inl e
  am:=λa ha=>by
   have ea:a=p:=by simpa using ha
   subst ea;exact⟨_,hp⟩
  len:=by unfold L2.start stI stE;simp only[aw,af,bO,aD];have:=nu r;omega
  sl:=λi t e=>by
   rcases gets e with ⟨rfl,rfl⟩|rfl|⟨j,d,rfl,e1,rfl⟩
   ·exact⟨p,dx,[],p6 rfl,hp,h0,by simp,rfl,nY⟩
   ·trivial
   ·obtain⟨v,e2,e3⟩:=qx r e1;exact⟨v,p6 (by simpa using e2),e3⟩
  ap:=λi j t u a hij ei ej ht hu=>by
   rcases gets ei with ⟨rfl,rfl⟩|rfl|⟨_,_,_,_,rfl⟩
   ·rcases gets ej with ⟨rfl,rfl⟩|rfl|⟨_,_,_,_,rfl⟩
    ·exact ak rfl hij
    ·cases hu
    ·cases hu
   ·cases ht
   ·cases ht }
theorem fnXI_some{n:Nat}{f:FS}{r:Option (List Str×List D)}(h:fnXI c np n f ds=some r):ds.length=np/\((∃ρ,f (stI c n ds)=some (.bk ρ)/\r=none)\/∃q,fnI c np n f ds=some q/\r=some q):=by
 unfold fnXI at h;split at h
 ·rename_i hl;refine⟨hl,?_⟩;split at h
  ·rename_i e;cases h;exact .inl ⟨_,e,rfl⟩
  ·split at h
   ·rename_i e;cases h;exact .inr ⟨_,e,rfl⟩
   ·cases h
  ·cases h
 ·cases h
theorem entry_XI{f:FS}{H:Hp}{Q:VK}(hN:np+1<=N.length)(h:spXI G c (fnXI c np N.length f) vs H Q E):tFX G (λH'=>∀e,E e none H') f { nx:=λ_ H'=>Q .non H',rt:=Q } (L2.start N vs) H:=by
 obtain⟨p,dx,us,H0,ds,rfl,hp,h0,s,r,k⟩:=h;rcases k with ⟨ns,es,e,k⟩|⟨e,k⟩
 ·obtain⟨hl,e'⟩:=fnXI_some e;rcases e' with ⟨_,_,z⟩|⟨q,e1,z⟩
  ·cases z
  ·cases z;exact tFS_zE (z6 (E:=E) hN ⟨p,dx,us,H0,ds,ns,es,rfl,hp,h0,s,r,e1,k⟩)
 ·obtain⟨hl,e'⟩:=fnXI_some e;rcases e' with ⟨ρ,e1,_⟩|⟨q,_,z⟩
  ·have R:=relI (N:=N) (by rw[<-nu r,hl];exact hN) hp h0 s r;exact⟨_,_,H0,_,R,e1,λσ' H0' H' s' R' ev=>k ev H' λb o e n=>R'.keep b o e (by simpa using n),λ_=>rfl⟩
  ·cases z
theorem len_XI{g:List D->Option (Option (List Str×List D))}(hg:∀ds q,g ds=some q->ds.length=np):∀vs H Q E,spXI G c g vs H Q E->vs.length=np+1:=λvs H Q E h=>by obtain⟨p,dx,us,H0,ds,rfl,_,_,_,r,k⟩:=h;rw[aD,<- nu r];rcases k with ⟨_,_,e,_⟩|⟨e,_⟩<;>rw[hg _ _ e]
end
structure ZX(X:Cx)(B:Bz)(c:Nat)(st:Stmt)(f:FS):Prop where p:(∀e s,¬X.xe e s)->∀xe Z,Passes (CXW B.P B.w (B.G.ca c)) (X.wish xe) (λ_ _ H'=>Z H')->Mades (X.wish xe) (B.G.ca c) Z->PS (X.wish xe) st (tFX B.G Z f)
structure ZY(X:Cx)(B:Bz)(c:Nat)(st:List Stmt)(f:FS):Prop where p:(∀e s,¬X.xe e s)->∀xe Z,Passes (CXW B.P B.w (B.G.ca c)) (X.wish xe) (λ_ _ H'=>Z H')->Mades (X.wish xe) (B.G.ca c) Z->PSs (X.wish xe) st (tFX B.G Z f)
class Xn(B:Bz)(y:Str)(c:outParam Nat):Prop where p:XC B.G.K (B.G.ca c)/\B.mg y=some (.ref (B.G.ca c))
class Dx(B:Bz)(j:outParam Nat)(x:Str)(c:Nat)(g:List D->Option Bool):Prop where p:∃ps f fd,B.mg x=some (.ref f)/\cG B.G.K (.ref f)=true/\Binds B.G.K fd ps []/\qu B.P B.w B.G.K B.mg B.base (CXW B.P B.w (B.G.ca c)) j f fd ps (spX B.G g)
class Kx(B:Bz)(j:outParam Nat)(x:Str)(c0:outParam Nat)(c:Nat)(g:List D->Option (Option (List Str×List D))):Prop where p:∃ps f fd,Mk B.G.K (B.G.ca c0) f/\B.mg x=some (.ref (B.G.ca c0))/\Binds B.G.K fd ps []/\qu B.P B.w B.G.K B.mg B.base (CXW B.P B.w (B.G.ca c)) j f fd ps (spXI B.G c0 g)
class Bx(X:Cx):Prop where
 n:∀e s,¬X.xe e s
 st:X.stack=X.env::X.outer
 fm:X.env.frame=some X.env.locals
instance inBx {P:ar}{w:ao}{K:aj}{mg:Str->Option aa}{base:Heap}{N:List Str}{qual:Str}{st:Stmt}{f:Addr}{cdv:aa}{A:av}{outer:List Env}{s:ae}{H:Hp}{E:XK}:Bx (tR P w K mg base N qual st f cdv A outer s H E):=⟨λ_ _ z=>z,rfl,rfl⟩
section
variable{X:Cx}{B:Bz}{k j c c0:Nat}{x y:Str}{e:Expr}{es:List Expr}{p p2 p3 pos pos2 pos3 hp:Pos}{a:FA}{st b0:Stmt}{sts sts' suite:List Stmt}{fs fs' fh:FS}{ft:FT}
theorem zr_xU(h:ZS X B st fs):ZX X B c st (sNb fs):=⟨λn xe Z _ _=>pfx_up (h.p.lift n)⟩
theorem zr_yI(h1:ZX X B c st fs)(h2:ZY X B c sts fs'):ZY X B c (st::sts) (nz fs fs'):=⟨λn xe Z q r=>pfx_cons (h1.p n xe Z q r) (h2.p n xe Z q r)⟩
theorem zr_y1(h1:ZX X B c st fs):ZY X B c [st] fs:=⟨λn xe Z q r=>xy (h1.p n xe Z q r)⟩
theorem zr_y0:ZY X B c [] oY:=⟨λn xe Z q r=>pfx_nil⟩
theorem zr_xI(h:ZT X B e ft)(h1:ZY X B c sts fs)(h2:ZY X B c sts' fs'):ZX X B c (.If e sts sts' pos) (sIf ft fs fs'):=⟨λn xe Z q r=>pfx_if (h.p.lift n) (h1.p n xe Z q r) (h2.p n xe Z q r)⟩
section
variable(hg:Gz X x)(hd:Dz x)(hs:Sz X e es)(hl:Lz X pos es)
include hg hd hs hl
theorem zr_xR [C:Cz X B k][Q:Xn B x c](ha:ZA X B (e::es) a):ZX X B c (.Raise (some (.Call (.Name x p) (e::es) [] pos)) none pos2) (sRz a):=
 ⟨λn xe Z q r=>pfx_raise (ps_raise (X:=X.wish xe) (by show XC X.K _;rw[C.K];exact Q.p.1) C.c (by show X.mg x=_;rw[C.mg];exact Q.p.2) r (ha.p.lift n) hg hd hs hl)⟩
theorem zr_xC{g:List D->Option Bool}[C:Cz X B k][Q:Dx B j x c g](ha:ZA X B (e::es) a)(hj:bZ j k=true)(hw:bX (.Call (.Name x p) (e::es) [] pos) none pos2.line X.env=pure false):ZX X B c (.Expr (.Call (.Name x p) (e::es) [] pos) pos2) (sXp g a):=by refine⟨λn xe Z q r=>?_⟩;have Q':=Q.p;rw[<-C.P,<- C.w,<- C.K,<- C.mg,<- C.b]at Q';rw[<-C.P,<- C.w]at q;obtain⟨ps,f,fd,h1,h2,h3,h4⟩:=Q';exact pfx_call (zI (vw (X:=X.wish xe) (p:=p) (pos:=pos) h4 (C.r.mono (cE.mp hj)) hg h1 h2 h3 .nil q (ha.p.lift n) hd hs hl) hw)
theorem zr_tI{g:List D->Option (Option (List Str×List D))}[C:Cz X B k][Q:Xn B y c][R:Kx B j x c0 c g][b:Bx X](ha:ZA X B (e::es) a)(hh:∀v,ZB (X.caught v) B (b0::suite) fh)(hj:bZ (j+1) k=true)(hg':Gz X y)(hd':Dz y)(hw:bX (.Call (.Name x p) (e::es) [] pos) none pos2.line X.env=pure false):
  ZS X B (.Try [.Expr (.Call (.Name x p) (e::es) [] pos) pos2] [.ExceptHandler (some (.Name y p2)) none (b0::suite) hp] [] [] pos3) (sTry g a fh):=by
 have R':=R.p;have Q':=Q.p;rw[<-C.P,<- C.w,<- C.K,<- C.mg,<- C.b]at R';rw[<-C.K,<- C.mg]at Q';obtain⟨ps,f,fd,h1,h2,h3,h4⟩:=R';exact⟨pfx_try (c:=c0) (ps_try (ds:=[]) b.st b.fm b.n Q'.1 hg' Q'.2 hd' h1 h4 (C.r.mono (cE.mp hj)) h3 .nil hg h2 ha.p hd hs hl hw λv=>(hh v).p)⟩
end
end
section
variable{B:Bz}[Y:Yb B]{x m qual:Str}{st s0:Stmt}{l:List Stmt}{k c c0 np n:Nat}{b:FS}{p:Str}{ps xs:List Str}{N:List Str}
abbrev Bdx(B:Bz)(N:List Str)(qual:Str)(st:Stmt)(l:List Stmt)(k c:Nat)(b:FS):Prop:=∀{f:Addr} {cdv:aa} {A:av} {outer:List Env} {s:ae} {H:Hp} {E:XK} [Cz (tR B.P B.w B.G.K B.mg B.base N qual st f cdv A outer s H E) B k],ZY (tR B.P B.w B.G.K B.mg B.base N qual st f cdv A outer s H E) B c l b
omit Y in
theorem Bdx.ok(h:Bdx B N qual st l k c b)(hl:nV st=l)(f:Addr)(cdv:aa)(A:av)(outer:List Env)(s:ae)(H:Hp)(E:XK)(hr:oQ k (A.deeper (envOfC qual (nG st) s.heap.objs.size f cdv))):
  PSs (cxW (B.G.ca c) B.P B.w B.G.K B.mg B.base N qual (nG st) f cdv A outer s H E) (nV st) (tFX B.G (λH'=>∀e,E e none H') b):=by
 subst hl;exact(@h f cdv A outer s H E ⟨rfl,rfl,rfl,rfl,rfl,rfl,hr⟩).p (λ_ _ z=>z) (cxW (B.G.ca c) B.P B.w B.G.K B.mg B.base N qual (nG st) f cdv A outer s H E).xe _ pass_body λpins σ H s a vs h' I hx z=>made_body I hx z
theorem gX4{g:List D->Option Bool}(hg:g=fnX np n b)(q:GD B.G.K x st)(hl:nV st=s0::l)(body:Bdx B (nmO st) x st (s0::l) k c b)(S:okO (nmO st) (psO st) st np n=true:=by kernel_rfl)(bd:Bds x x st (psO st):=by (repeat intro _);rfl):Dx B (k+1) x c g:=by obtain⟨f,fd,a,F⟩:=q;obtain⟨S1,S2,S3⟩:=okk S;refine⟨psO st,f,fd,Y.y.g a,F.kp,bd.ok F,?_⟩;subst hg S2 S3;obtain⟨oc,od,kV,doc,pm,an,cdv,ct,osl,rfl,lk,hcd⟩:=F.ex;exact AM lk hcd S1 (len_X λds d h=>(fnX_some h).1) λA outer s H vs Q E hr hsp=>⟨_,body.ok hl f cdv A outer s H E hr,entry_X (by have:=aM bM S1.pre;rw[bf]at this;omega) hsp⟩
theorem gX5(N:List Str){g:List D->Option Bool}(hg:g=fnX np n b)(q:GD B.G.K x st)(hl:nV st=s0::l)(body:Bdx B N x st (s0::l) k c b)(S:okO N (psO st) st np n=true:=by kernel_rfl)(bd:Bds x x st (psO st):=by (repeat intro _);rfl):Dx B (k+1) x c g:=by obtain⟨f,fd,a,F⟩:=q;obtain⟨S1,S2,S3⟩:=okk S;refine⟨psO st,f,fd,Y.y.g a,F.kp,bd.ok F,?_⟩;subst hg S2 S3;obtain⟨oc,od,kV,doc,pm,an,cdv,ct,osl,rfl,lk,hcd⟩:=F.ex;exact AM lk hcd S1 (len_X λds d h=>(fnX_some h).1) λA outer s H vs Q E hr hsp=>⟨_,body.ok hl f cdv A outer s H E hr,entry_X (by have:=aM bM S1.pre;rw[bf]at this;omega) hsp⟩
theorem gXI4{g:List D->Option (Option (List Str×List D))}(C:CF B.G.K (B.G.ca c0) xs)(a:eZ B.G.K aJ x=some (some (.ref (B.G.ca c0))))(hg:g=fnXI c0 np n b)(q:GM B.G.K (B.G.ca c0) "__init__" qual st)(hl:nV st=s0::l)(hp:psO st=p::ps)(body:Bdx B (nmO st) qual st (s0::l) k c b)(S:okO (nmO st) (p::ps) st (np+1) n=true:=by kernel_rfl)(bd:Bds "__init__" qual st (p::ps):=by (repeat intro _);rfl):Kx B (k+1) x c0 c g:=by obtain⟨f,fd,i,i',F⟩:=q;obtain⟨S1,S2,S3⟩:=okk S;refine⟨p::ps,f,fd,⟨C.mks,i,i',C.kp⟩,Y.y.g a,bd.ok F,?_⟩;obtain rfl:ps.length=np:=eR S2;subst hg S3;obtain⟨oc,od,kV,doc,pm,an,cdv,ct,osl,rfl,lk,hcd⟩:=F.ex;exact AM lk hcd S1 (len_XI λds d h=>(fnXI_some h).1) λA outer s H vs Q E hr hsp=>⟨_,body.ok hl f cdv A outer s H E hr,entry_XI (by have:=aM bM S1.pre;rw[bf,aD]at this;omega) hsp⟩
end
section
variable{X:Cx}{B:Bz}{k j:Nat}{x:Str}{e:Expr}{n:FA}{p pos:Pos}
theorem zr_df0{g:List D->Option D}[C:Cz X B k][Q:Df B j x (spF B.G g)](hg:Gz X x)(hd:Dz x)(hj:bZ j k=true):ZE X B (.Call (.Name x p) [] [] pos) (nv g n6):=by obtain⟨ps,q⟩:=dz hg hd (X:=X) (Q:=Q);exact⟨IS q (C.r.mono (cE.mp hj)) hg hd⟩
end
def sIxPut(i m:Nat)(f:FE):FS:=λρ=>match f ρ with
 |some (d,ρ1)=>match oM ρ1 i with
  |some ds=>match ρ1[m]? with
   |some (.im (.int j))=>match ixN ds.length j with
    |some k=>some (.nx (putAt ρ1 i (ds.set k d)))
    |none=>none
   |_=>none
  |none=>none
 |none=>none
section
variable{X:Cx}{G:Bg}
theorem pfs_ixput{st:Stmt}{i m:Nat}{f:FE}(h:PS X st (uL (tF G f) (KL (rW i) (rW m) E7))):PS X st (tFS G (sIxPut i m f)):=PS.weak h λE σ H hh=>by
 obtain⟨F,ρ,H0,o,R,e,k,k2⟩:=hh;unfold sIxPut at e;rcases nN (f:=f) (ρ:=ρ)with e1|⟨d,ρ1,e1⟩<;>simp only[e1]at e
 ·cases e
 cases e2:oM ρ1 i with
 |none=>simp only[e2]at e;cases e
 |some ds=>
  simp only[e2]at e;split at e
  ·rename_i j e4;cases e3:ixN ds.length j with
   |none=>simp only[e3]at e;cases e
   |some n=>simp only[e3]at e;cases e;refine⟨F,ρ,H0,d,ρ1,R,e1,λv H1 H1' s R' r=>?_⟩;obtain⟨a,xs,s1,s2,s3,s4⟩:=pF R' e2;obtain⟨w,w1,w2⟩:=R'.sl m _ e4;unfold Rep at w2;subst w2;exact⟨.ref a,s1,.int j,pO w1,a,xs,j,n,rfl,rfl,s2,by rw[<-nu s3];exact e3,k _ _ _ s (s4 _ _ (xU n s3 r))⟩
  ·cases e
end
section
variable{X:Cx}{B:Bz}{i m:Nat}{x y:Str}{e:Expr}{f:FE}{p p2 p3 pos:Pos}
theorem zr_xpT(h:sees X i x=true)(h':sees X m y=true)(he:ZE X B e f)(hs:swapsWithSole [.Subscript (.Name x p) (.Name y p2) p3] e pos.line X.env=pure false)(hw:swappedStores [.Subscript (.Name x p) (.Name y p2) p3] e X.env=pure none)
  (h1:(bR [.Subscript (.Name x p) (.Name y p2) p3] X.env).map (·.2)=[assign (.Subscript (.Name x p) (.Name y p2) p3) X.env]):ZS X B (.Assign [.Subscript (.Name x p) (.Name y p2) p3] e pos) (sIxPut i m f):=⟨pfs_ixput (BG he.p (ET (pvI h) (pvI h') set_list) hs hw h1)⟩
end
end L4
namespace L4
open PySem PySem.Spec PySem.Calls PyProof.Rows PySem.W L2 L3
theorem uqP_K{κ α:Type}[DecidableEq κ]:∀(l acc:List (κ×α)),(l.foldl ust acc).map bq=(l.map bq).foldl (λacc k=>if k∈acc then acc else acc++[k]) (acc.map bq)
 |[],_=>rfl
 |q::l,acc=>by rw[cy,uqP_K l,aF,cy];congr 1;unfold ust;split<;>simp
section
variable{X:Cx}{G:Bg}
def SrcU(K:aj)(H:Hp)(a:Addr)(n:Nat):Prop:=L6 K H a n\/
 ∃L:List (List Str×Addr),SqL K H a (L.map λq=>V.ref q.2)/\L.length<=40/\(∀q∈L,∃p r,q.1=[p,r]/\SqT K H q.2 [.str p,.str r])/\n=(uqP L).length
theorem uqP_le{κ α:Type}[DecidableEq κ]:∀(l acc:List (κ×α)),(l.foldl ust acc).length<=acc.length+l.length
 |[],_=>aA _
 |q::l,acc=>by
  have h:=uqP_le l (ust acc q);have h2:(ust acc q).length<=acc.length+1:=by unfold ust;split<;>simp
  rw[cy,aD];omega
theorem set_U2:L7 X SrcU:=by
 intro pins σ H s A E Q a n I hh hu hq h;rcases hq with hq|⟨L,h1,h8,ht,rfl⟩
 ·exact O0 I hh hu hq h
 ·have hl:(uqP L).length<=40:=bw (uqP_le L []) (by rw[b8];omega);refine Qd I hh hu (.inl h1) (by omega) ht λh2 k2 o es ep t x kk=>?_;refine h h2 k2 ⟨o,es,ep,t,x.at_,x.ex,x.d,?_,x.fits (af _),x.sz.trans (af _)⟩ kk;rw[x.sz,af];unfold scanBound;omega
def pairsU(ds:List D):Option D:=match wX ds with
 |some ks=>if ds.length<=40 then some (.int (uqK ks).length)else none
 |none=>none
theorem pairs_U(hK:X.K=G.K):∀{ds d H1 H1' a xs},pairsU ds=some d->SqL X.K H1' a xs->ny G H1 ds xs->nE H1 H1'->∃n:Nat,SrcU X.K H1' a n/\d=.int n:=λ{ds d H1 H1' a xs} e hq h2 s=>by
 unfold pairsU at e;cases e2:wX ds with
 |none=>simp only[e2]at e;cases e
 |some ks=>
  simp only[e2]at e;split at e
  ·rename_i hc;cases e;obtain⟨L,rfl,rfl,h3⟩:=Dk h2 e2;have hl:=nu h2;rw[af]at hl;refine⟨_,.inr ⟨L,hq,by omega,λq hq=>?_,rfl⟩,?_⟩
   ·obtain⟨p,r,e,h4⟩:=h3 q hq;rw[<-hK]at h4;exact⟨p,r,e,SqT.mono s h4⟩
   ·have:=aM bM (uqP_K L []);rw[af]at this;show D.int _=D.int _;rw[show (uqP L).length=_ from this];rfl
  ·cases e
end
section
variable{X:Cx}{B:Bz}{k:Nat}{e:Expr}{f:FE}{p p2 p3 pos:Pos}
theorem zr_l2I [C:Cz X B k][N:Nb B "len"][N':Nb B "set"](hs:S1 X e)(hg:Gz X "len")(hg':Gz X "set")(ha:ZE X B e f)(z:aq [Expr.Call (.Name "set" p2) [e] [] p3] X.env=[(false,eval (.Call (.Name "set" p2) [e] [] p3) X.env)]):ZE X B (.Call (.Name "len" p) [.Call (.Name "set" p2) [e] [] p3] [] pos) (c1 (ug pairsU) f):=⟨Ca C.K .inl (pairs_U C.K) (Ew set_U2 C.r.units C.c hg (C.mg▸N.p) hg' (C.mg▸N'.p) ha.p z hs)⟩
end
section
variable{B:Bz}[Y:Yb B]{x:Str}{st s0:Stmt}{l:List Stmt}{k np n:Nat}{b:FS}
theorem gL5(N:List Str){g:List D->List D->Option (D×List D)}(hg:g=fnL np n b)(q:GD B.G.K x st)(hl:nV st=s0::l)(body:Bdz B N x st (s0::l) k b)(S:okO N (psO st) st (np+1) n=true:=by kernel_rfl)(bd:Bds x x st (psO st):=by (repeat intro _);rfl):Df B (k+1) x (spL B.G g):=
 ⟨_,gL hg Y.y q (okk S).1 (body.ok hl) (okk S).2.1 (okk S).2.2 bd⟩
end
end L4
namespace K07x
open PySem L2 L3 L4
abbrev D:=L4.D
def top(i:Nat):Stmt:=PySem.Challenge.pw_tellworld_k07_marks_and_ways_that_are_no.main.body.getD i (.Pass ⟨0,0,0,0⟩)
def sM:Nat->Bool:=λc=>c==14
def pT:Nat->Bool:=λc=>c==2
def tS:Nat->Bool:=λc=>c==14
def ui:Nat->Bool:=λc=>c==14
def oF:Nat->Bool:=λc=>c==0||c==7
def rM:Nat->Bool:=λc=>c==1
def nO:Nat->Bool:=λc=>c==0||c==1||c==2
def qN:Nat->Bool:=λc=>c==2
def sN:Nat->Bool:=λc=>c==14
def sO:Nat->Bool:=λc=>c==14
def p9:Nat->Bool:=λc=>c==0||c==1
def rN:Nat->Bool:=λc=>c==13
def oV:Nat->Bool:=λc=>c==0
def uT:Nat->Bool:=λc=>c==14
abbrev GL:Ty->Option Bool:=zl 15 1
abbrev Ap:Ty->Option Bool:=zl 15 0
def xG:L4.D:=(D.tup [(D.str "room"),(D.str "plain"),(D.str "fixed"),(D.str "box"),(D.str "lamp"),(D.str "you")])
def sg:L4.D:=(D.tup [(D.str "room"),(D.str "box"),(D.str "you")])
def sh:L4.D:=(D.tup [(D.str "box"),(D.str "lamp")])
def uU:L4.D:=(D.tup [(D.str "room"),(D.str "you")])
def uj:L4.D:=(D.int 8)
def uk:L4.D:=(D.int 12)
def yw:L4.D:=(D.tup [(D.str "it"),(D.str "other"),(D.str "here"),(D.str "the"),(D.str "a"),(D.str "undo"),(D.str "restart")])
def yx:L4.D:=(D.tup [(D.str "the"),(D.str "a")])
def tL:L4.D:=(D.int 5)
def su:L4.D:=(D.int 7)
def rA:L4.D:=(D.int 4)
def um:L4.D:=(D.int 3)
def sj:L4.D:=(D.int 10)
def vO:L4.D:=(D.int 6)
def vP:L4.D:=(D.int 4)
def ph:L4.D:=(D.tup [(D.str "the"),(D.str "a"),(D.str "undo"),(D.str "restart")])
def vQ:L4.D:=(D.int 20)
def rO:FS:=(oK (pM (c1 (qB (pG "str")) (cV 0)) (pM (qj rX rX (cC (.int 1)) (c1 oR (cV 0)) (cV 1)) (c1 pL (cL (nJ 1 [] (iS (cV 0)) (gN 0) oh (qj FM FM (cS "a") (cV 0) (cS "z"))))))))
def qm:=fnD 2 2 rO
def zr:FS:=(oK (pM (nv qm (aCons (cV 0) (a1 (cC uj)))) (c2 (dIn true) (cV 0) (cC yw))))
def n4:=fnD 1 1 zr
def zt:FS:=(oK (pM (nv qm (aCons (cV 0) (a1 (cC uk)))) (c2 (dIn true) (cV 0) (cC yx))))
def ox:=fnD 1 1 zt
def wY:FS:=(oK (pM (c1 (qB (pG "str")) (cV 0)) (c2 (dIn false) (cV 0) (cV 1))))
def nX:=fnD 2 2 wY
def yy:FS:=(oK (pM (c1 (qB (pG "int")) (cV 0)) (yR (c1 (qB (pG "bool")) (cV 0)))))
def ve:=fnD 1 1 yy
def tT:FS:=(oK (pM (c1 (qB (pG "list")) (cV 0)) (c2 rX (c1 oR (cV 0)) (cV 1))))
def og:=fnD 2 2 tT
def yz:FS:=(oK (cIf (cT (c1 (qB (pG "list")) (cV 0))) (cL (uQ (cV 0))) (cV 0)))
def vg:=fnD 1 1 yz
def tN:FS:=(nz (oa 0 0 "name" (cV 1))
 (nz (oa 0 0 "words" (cV 2))
 (nz (oa 0 0 "kind" (cV 3))
 (oa 0 0 "start" (cV 4)))))
def oZ:=fnI 0 4 5 tN
def wZ:FS:=(nz (oa 1 0 "name" (cV 1))
 (nz (oa 1 0 "start" (cV 2))
 (oa 1 0 "most" (cV 3))))
def oo:=fnI 1 3 4 wZ
def uo:FS:=(nz (oa 2 0 "name" (cV 1))
 (nz (oa 2 0 "others" (cIf (cT (c2 xu (cV 2) (cC D.non))) (om n6) (cV 2)))
 (nz (oa 2 0 "form" (cV 3))
 (oa 2 0 "joining" (cV 4)))))
def pU:=fnI 2 4 5 uo
def zu:FS:=(nz (oa 3 0 "term" (cV 1))
 (oa 3 0 "place" (cV 2)))
def wx:=fnI 3 2 3 zu
def yA:FS:=(oa 4 0 "term" (cV 1))
def vh:=fnI 4 1 2 yA
def uV:FS:=(nz (oa 6 0 "term" (cV 1))
 (oa 6 0 "value" (cV 2)))
def o6:=fnI 6 2 3 uV
def w5:FS:=(nz (oa 7 0 "term" (cV 1))
 (oa 7 0 "kind" (cV 2)))
def pV:=fnI 7 2 3 w5
def w6:FS:=(oa 8 0 "word" (cV 1))
def w9:=fnI 8 1 2 w6
def yB:FS:=(oa 9 0 "inner" (cV 1))
def pW:=fnI 9 1 2 yB
def xa:FS:=(nz (oa 11 0 "term" (cV 1))
 (oa 11 0 "place" (cV 2)))
def qU:=fnI 11 2 3 xa
def yC:FS:=(nz (oa 12 0 "term" (cV 1))
 (oa 12 0 "value" (cV 2)))
def rP:=fnI 12 2 3 yC
def xc:FS:=(nz (oa 13 0 "verb" (cV 1))
 (nz (oa 13 0 "tests" (nv vg (a1 (cV 2))))
 (nz (oa 13 0 "deeds" (nv vg (a1 (cV 3))))
 (nz (oa 13 0 "text" (cV 4))
 (oa 13 0 "refuses" (cV 5))))))
def uq:=fnI 13 5 6 xc
def sP:FS:=(oK (c2 (dIn false) (c1 (nR oF "kind") (cV 0)) (cC sg)))
def sQ:=fnD 1 1 sP
def pX:Nat->Option (List D->Option D):=λc=>match c with
 |0=>some sQ
 |_=>none
def sR:FS:=(oK (c2 (dIn false) (c1 (nR oF "kind") (cV 0)) (cC sh)))
def sS:=fnD 1 1 sR
def pb:Nat->Option (List D->Option D):=λc=>match c with
 |0=>some sS
 |_=>none
def rQ:FS:=(oK (c2 (dIn true) (c1 (nR oF "kind") (cV 0)) (cC uU)))
def rR:=fnD 1 1 rQ
def qO:Nat->Option (List D->Option D):=λc=>match c with
 |0=>some rR
 |_=>none
def tU:FS:=(sIf (sd (cT (cV 0))) (sRz (a1 (cV 1))) oY)
def nq:=fnX 2 2 tU
def yD:FS:=(oK (c1 oR (cL (nJ 1 [1] (iL (cV 0)) (gN 0) (cT (c2 (dEq false) (c1 (nR oF "kind") (cV 0)) (cV 1))) (cV 0)))))
def qP:=fnD 2 2 yD
def vR:FS:=(pP (nJ 1 [] (iL (cV 0)) (gN 0) (cT (qo qO "is_plainly" (cV 0) n6)) (cV 0)))
def pj:=fnN 1 1 vR
def zv:FS:=(nz (sIf (z5 (sd (cT (c1 (qB GL) (cV 0)))) (z5 (sd (cT (nv ve (a1 (c1 (nR p9 "start") (cV 0)))))) (sd (cT (nv ve (a1 (c1 (nR rM "most") (cV 0)))))))) (oK (cC (.bl false))) oY)
 (oK (pM (qj rX rX (cC (.int 1)) (c1 (nR rM "most") (cV 0)) (cC um)) (qj rX rX (cC (.int 0)) (c1 (nR p9 "start") (cV 0)) (c1 (nR rM "most") (cV 0))))))
def oW:=fnD 1 1 zv
def ur:FS:=(nz (sNb (ot 1 (pM (c1 (qB (pG "list")) (cV 0)) (c1 pL (cL (nJ 1 [] (iL (cV 0)) (gN 0) oh (c1 (qB Ap) (cV 0))))))))
 (nz (sXp nq (aCons (cV 1) (a1 (cS "things are a list of things"))))
 (nz (sXp nq (aCons (c1 pL (cL (nJ 1 [] (iL (cV 0)) (gN 0) oh (nv nX (aCons (c1 (nR oF "kind") (cV 0)) (a1 (cC xG))))))) (a1 (cS "a thing is of no kind"))))
 (nz (sXp nq (aCons (qj rX rX (cC (.int 1)) (nv qP (aCons (cV 0) (a1 (cS "room")))) (cC tL)) (a1 (cS "a world has 1 to 5 rooms"))))
 (nz (sXp nq (aCons (c2 (dEq false) (nv qP (aCons (cV 0) (a1 (cS "you")))) (cC (.int 1))) (a1 (cS "a world has just one you"))))
 (sXp nq (aCons (c2 rX (c1 oR (cL (oN pj (a1 (cV 0))))) (cC su)) (a1 (cS "a world has at most 7 things beside rooms and you")))))))))
def qC:=fnX 1 2 ur
def qR:FS:=(nz (sNb (ot 1 (pM (nv og (aCons (cV 0) (a1 (cC rA)))) (c1 pL (cL (nJ 1 [] (iL (cV 0)) (gN 0) oh (nv oW (a1 (cV 0)))))))))
 (sXp nq (aCons (cV 1) (a1 (cS "marks are a list of at most 4 marks, each from 0 to at most 3")))))
def pJ:=fnX 1 2 qR
def vS:FS:=(oK (c2 (dEq false) (c1 (ug pairsU) (cV 0)) (c1 oR (cV 0))))
def n8:=fnD 1 1 vS
def qf:FS:=(nz (sNb (ot 2 (cL (o4 (cL (nJ 1 [] (iL (cV 0)) (gN 0) oh (c1 (nR nO "name") (cV 0)))) (cL (nJ 1 [] (iL (cV 1)) (gN 0) oh (c1 (nR nO "name") (cV 0))))))))
 (nz (sXp nq (aCons (c1 pL (cL (nJ 1 [] (iL (cV 2)) (gN 0) oh (nv n4 (a1 (cV 0)))))) (a1 (cS "a name is no name"))))
 (sXp nq (aCons (nv n8 (a1 (cV 2))) (a1 (cS "two things or marks have one name"))))))
def o7:=fnX 2 3 qf
def vT:FS:=(pP (o4 (cL (nJ 1 [] (iL (cV 0)) (gN 0) (cT (qo pb "has_mark" (cV 0) n6)) (c1 (nR nO "name") (cV 0)))) (cL (nJ 1 [] (iL (cV 1)) (gN 0) oh (c1 (nR nO "name") (cV 0))))))
def pq:=fnN 2 2 vT
def vm:FS:=(nz (sIf (cT (c2 (dEq false) (c1 (nR oF "kind") (cV 1)) (cS "room"))) (oK (c2 xu (c1 (nR p9 "start") (cV 1)) (cC D.non))) oY)
 (nz (sIf (cT (c2 (dEq false) (c1 (nR oF "kind") (cV 1)) (cS "you"))) (oK (nv nX (aCons (c1 (nR p9 "start") (cV 1)) (a1 (cL (nJ 1 [] (iL (cV 0)) (gN 0) (cT (c2 (dEq false) (c1 (nR oF "kind") (cV 0)) (cS "room"))) (c1 (nR nO "name") (cV 0)))))))) oY)
 (oK (nv nX (aCons (c1 (nR p9 "start") (cV 1)) (a1 (cL (nJ 1 [] (iL (cV 0)) (gN 0) (cT (qo pX "can_hold" (cV 0) n6)) (c1 (nR nO "name") (cV 0))))))))))
def vn:=fnD 2 2 vm
def tV:FS:=(nz (ot 2 (c2 wQ (cV 0) (cV 1)))
 (nz (sI (iR1 (c1 oR (cV 0))) (gN 3) (nz (sIf (cT (c2 xu (cV 2) (cC D.non))) (oK (cC (.bl true))) oY)
 (ot 2 (c2 wQ (cV 0) (cV 2)))))
 (oK (c2 xu (cV 2) (cC D.non)))))
def oE:=fnD 2 4 tV
def qE:FS:=(nz (sXp nq (aCons (c1 pL (cL (nJ 1 [0] (iL (cV 0)) (gN 0) oh (nv vn (aCons (cV 1) (a1 (cV 0))))))) (a1 (cS "a start is none"))))
 (nz (sNb (zh 1))
 (nz (sNb (sI (iL (cV 0)) (gN 2) (q8 1 (c1 (nR nO "name") (cV 2)) (c1 (nR p9 "start") (cV 2)))))
 (sXp nq (aCons (c1 pL (cL (nJ 1 [1] (iD (cFz 1)) (gN 0) oh (nv oE (aCons (cV 1) (a1 (cV 0))))))) (a1 (cS "a thing starts within itself")))))))
def pY:=fnX 1 3 qE
def xf:FS:=(nz (sIf (z5 (sd (cT (c1 (qB (pG "tuple")) (cV 0)))) (sd (cT (qj rX rX (cC (.int 1)) (c1 oR (cV 0)) (cC vP))))) (oK (cC (.bl false))) oY)
 (oK (pM (c1 pL (cL (nJ 1 [] (iT (cV 0)) (gN 0) oh (nv ox (a1 (cV 0)))))) (nv n8 (a1 (cV 0))))))
def qr:=fnD 1 1 xf
def zw:FS:=(oK (c1 pL (cL (nJ 1 [0] (iT (cV 1)) (gN 0) oh (c2 (dIn false) (cV 0) (cV 1))))))
def qt:=fnD 2 2 zw
def q9:FS:=(nz (ot 2 (cL (nJ 1 [1] (iL (cV 0)) (gN 0) (cT (c2 (dEq true) (c1 (nR nO "name") (cV 0)) (c1 (nR nO "name") (cV 1)))) (cV 0))))
 (oK (yR (c1 ye (cL (nJ 1 [1] (iL (cV 2)) (gN 0) oh (nv qt (aCons (c1 (nR oV "words") (cV 0)) (a1 (c1 (nR oV "words") (cV 1)))))))))))
def pH:=fnD 2 3 q9
def oq:FS:=(nz (sXp nq (aCons (c1 pL (cL (nJ 1 [] (iL (cV 0)) (gN 0) oh (nv qr (a1 (c1 (nR oV "words") (cV 0))))))) (a1 (cS "a thing has 1 to 4 unlike words, as a tuple"))))
 (nz (sNb (ot 1 (cL (oN pj (a1 (cV 0))))))
 (sXp nq (aCons (c1 pL (cL (nJ 1 [1] (iL (cV 1)) (gN 0) oh (nv pH (aCons (cV 1) (a1 (cV 0))))))) (a1 (cS "one thing has all words of another"))))))
def oe:=fnX 1 2 oq
def rB:FS:=(nz (sNb (ot 2 (pM (c1 (qB (pG "list")) (cV 0)) (pM (c1 pL (cL (nJ 1 [1] (iL (cV 0)) (gN 0) oh (nv nX (aCons (cV 0) (a1 (cV 1))))))) (nv n8 (a1 (cV 0)))))))
 (sXp nq (aCons (cV 2) (a1 (cS "dark is a list of rooms' names, each once")))))
def oO:=fnX 2 3 rB
def yE:FS:=(nz (sIf (z5 (sd (cT (c1 (qB (pG "tuple")) (cV 0)))) (cT (c2 (dEq true) (c1 oR (cV 0)) (cC (.int 4))))) (oK (cC (.bl false))) oY)
 (nz (ot 3 (cOr (c2 xu (c2 dIx (cV 0) (cC (.int 3))) (cC D.non)) (nv nX (aCons (c2 dIx (cV 0) (cC (.int 3))) (a1 (cV 2))))))
 (oK (pM (nv nX (aCons (c2 dIx (cV 0) (cC (.int 0))) (a1 (cV 1)))) (pM (nv ox (a1 (c2 dIx (cV 0) (cC (.int 1))))) (pM (nv nX (aCons (c2 dIx (cV 0) (cC (.int 2))) (a1 (cV 1)))) (cV 3)))))))
def pI:=fnD 3 4 yE
def qF:FS:=(nz (sNb (ot 3 (pM (nv og (aCons (cV 0) (a1 (cC sj)))) (c1 pL (cL (nJ 1 [1,2] (iL (cV 0)) (gN 0) oh (nv pI (aCons (cV 0) (aCons (cV 1) (a1 (cV 2)))))))))))
 (nz (sXp nq (aCons (cV 3) (a1 (cS "ways are a list of at most 10 tuples (room, word, room, mark)"))))
 (sXp nq (aCons (nv n8 (a1 (cL (nJ 1 [] (iL (cV 0)) (gN 0) oh (om (aCons (c2 dIx (cV 0) (cC (.int 0))) (a1 (c2 dIx (cV 0) (cC (.int 1)))))))))) (a1 (cS "two ways lead from one room by one word"))))))
def px:=fnX 3 4 qF
def uW:FS:=(nz (sNb (ot 1 (pM (nv og (aCons (cV 0) (a1 (cC vO)))) (c1 pL (cL (nJ 1 [] (iL (cV 0)) (gN 0) oh yf))))))
 (sXp nq (aCons (cV 1) (a1 (cS "verbs are a list of at most 6 verbs")))))
def sv:=fnX 1 2 uW
def xh:FS:=(oK (yR (c1 ye (cL (nJ 1 [1] (iL (cV 0)) (gN 0) oh (c2 (dIn false) (cV 0) (cV 1)))))))
def oJ:=fnD 2 2 xh
def pz:FS:=(nz (sNb (qy 3 (nP n6)))
 (nz (sNb (sI (iL (cL (oN pj (a1 (cV 0))))) (gN 4) (pQ (uf 3 (c1 (nR oV "words") (cV 4))))))
 (nz (sNb (qy 5 (nP n6)))
 (nz (sNb (sI (iL (cV 2)) (gN 6) (pQ (uf 5 (wR (om (a1 (c1 (nR nO "name") (cV 6)))) (c1 (nR qN "others") (cV 6)))))))
 (nz (sNb (ot 7 (cL (o4 (cL (nJ 1 [] (iL (cV 2)) (gN 0) (cT (c2 ze (c1 (nR pT "joining") (cV 0)) (cC D.non))) (c1 (nR pT "joining") (cV 0)))) (cL (nJ 1 [] (iL (cV 1)) (gN 0) oh (c2 dIx (cV 0) (cC (.int 1)))))))))
 (nz (sXp nq (aCons (nv n8 (a1 (cFz 5))) (a1 (cS "two verbs' names are alike"))))
 (nz (sXp nq (aCons (nv oJ (aCons (cL (o4 (cFz 5) (cV 7))) (a1 (cFz 3)))) (a1 (cS "a verb's, way's or joining word is a word of a thing"))))
 (nz (sXp nq (aCons (nv oJ (aCons (cL (o4 (cFz 5) (cV 7))) (a1 (cC ph)))) (a1 (cS "the, a, undo or restart is a word of the world"))))
 (sXp nq (aCons (nv oJ (aCons (cV 7) (a1 (cFz 5)))) (a1 (cS "a way's or joining word is a verb's name"))))))))))))
def oG:=fnX 3 8 pz
def pK:FS:=(nz (sXp qC (a1 (cV 0)))
 (nz (sXp pJ (a1 (cV 1)))
 (nz (sXp o7 (aCons (cV 0) (a1 (cV 1))))
 (nz (sXp pY (a1 (cV 0)))
 (nz (sXp oe (a1 (cV 0)))
 (nz (sNb (ot 6 (cL (nJ 1 [] (iL (cV 0)) (gN 0) (cT (c2 (dEq false) (c1 (nR oF "kind") (cV 0)) (cS "room"))) (c1 (nR nO "name") (cV 0))))))
 (nz (sXp oO (aCons (cV 2) (a1 (cV 6))))
 (nz (sXp px (aCons (cV 3) (aCons (cV 6) (a1 (cL (oN pq (aCons (cV 0) (a1 (cV 1)))))))))
 (nz (sXp sv (a1 (cV 4)))
 (sXp oG (aCons (cV 0) (aCons (cV 3) (a1 (cL (o4 (cV 4) (cV 5))))))))))))))))
def nZ:=fnX 6 7 pK
def GN:FS:=(oK (nU 13 (λds=>uq (ds++[])) (aCons (cV 0) (aCons (cV 1) (aCons (cV 2) (aCons (cV 3) (a1 (cC (.bl false)))))))))
def rS:=fnD 4 4 GN
def zx:FS:=(oK (nU 13 (λds=>uq (ds++[])) (aCons (cV 0) (aCons (cV 1) (aCons (cL (nP n6)) (aCons (cV 2) (a1 (cC (.bl true)))))))))
def oA:=fnD 3 3 zx
def vU:FS:=(pP (nP (aCons (nv oA (aCons (cS "take") (aCons (cL (nP (a1 (nU 7 (λds=>pV (ds++[])) (aCons (cS "it") (a1 (cS "fixed"))))))) (a1 (cS "That stays."))))) (aCons (nv oA (aCons (cS "take") (aCons (cL (nP (a1 (nU 3 (λds=>wx (ds++[])) (aCons (cS "it") (a1 (cV 0))))))) (a1 (cS "You have that."))))) (aCons (nv rS (aCons (cS "take") (aCons (cL (nP n6)) (aCons (cL (nP (a1 (nU 11 (λds=>qU (ds++[])) (aCons (cS "it") (a1 (cV 0))))))) (a1 (cS "Taken.")))))) (aCons (nv rS (aCons (cS "drop") (aCons (cL (nP (a1 (nU 4 (λds=>vh (ds++[])) (a1 (cS "it")))))) (aCons (cL (nP (a1 (nU 11 (λds=>qU (ds++[])) (aCons (cS "it") (a1 (cS "here"))))))) (a1 (cS "Dropped.")))))) (a1 (nv oA (aCons (cS "drop") (aCons (cL (nP n6)) (a1 (cS "You lack that."))))))))))))
def tO:=fnN 1 1 vU
def xi:FS:=(pP (nP (aCons (nv oA (aCons (cS "put") (aCons (cL (nP (a1 (nU 9 (λds=>pW (ds++[])) (a1 (nU 4 (λds=>vh (ds++[])) (a1 (cS "it")))))))) (a1 (cS "You lack that."))))) (aCons (nv oA (aCons (cS "put") (aCons (cL (nP (a1 (nU 9 (λds=>pW (ds++[])) (a1 (nU 7 (λds=>pV (ds++[])) (aCons (cS "other") (a1 (cS "box"))))))))) (a1 (cS "It holds nothing."))))) (aCons (nv oA (aCons (cS "put") (aCons (cL (nP (a1 (nU 6 (λds=>o6 (ds++[])) (aCons (cS "other") (a1 (cC (.int 0)))))))) (a1 (cS "It is shut."))))) (a1 (nv rS (aCons (cS "put") (aCons (cL (nP n6)) (aCons (cL (nP (a1 (nU 11 (λds=>qU (ds++[])) (aCons (cS "it") (a1 (cS "other"))))))) (a1 (cS "Done."))))))))))))
def uu:=fnN 0 0 xi
def xj:FS:=(pP (nP (aCons (nv oA (aCons (cS "open") (aCons (cL (nP (a1 (nU 9 (λds=>pW (ds++[])) (a1 (nU 7 (λds=>pV (ds++[])) (aCons (cS "it") (a1 (cS "box"))))))))) (a1 (cS "It has no lid."))))) (aCons (nv oA (aCons (cS "open") (aCons (cL (nP (a1 (nU 6 (λds=>o6 (ds++[])) (aCons (cS "it") (a1 (cC (.int 1)))))))) (a1 (cS "It is open."))))) (aCons (nv rS (aCons (cS "open") (aCons (cL (nP n6)) (aCons (cL (nP (a1 (nU 12 (λds=>rP (ds++[])) (aCons (cS "it") (a1 (cC (.int 1)))))))) (a1 (cS "Opened.")))))) (aCons (nv oA (aCons (cS "shut") (aCons (cL (nP (a1 (nU 9 (λds=>pW (ds++[])) (a1 (nU 7 (λds=>pV (ds++[])) (aCons (cS "it") (a1 (cS "box"))))))))) (a1 (cS "It has no lid."))))) (aCons (nv oA (aCons (cS "shut") (aCons (cL (nP (a1 (nU 6 (λds=>o6 (ds++[])) (aCons (cS "it") (a1 (cC (.int 0)))))))) (a1 (cS "It is shut."))))) (a1 (nv rS (aCons (cS "shut") (aCons (cL (nP n6)) (aCons (cL (nP (a1 (nU 12 (λds=>rP (ds++[])) (aCons (cS "it") (a1 (cC (.int 0)))))))) (a1 (cS "Shut."))))))))))))))
def uv:=fnN 0 0 xj
def uX:FS:=(pP (nP (aCons (nv oA (aCons (cS "light") (aCons (cL (nP (a1 (nU 9 (λds=>pW (ds++[])) (a1 (nU 7 (λds=>pV (ds++[])) (aCons (cS "it") (a1 (cS "lamp"))))))))) (a1 (cS "It burns not."))))) (aCons (nv oA (aCons (cS "light") (aCons (cL (nP (a1 (nU 6 (λds=>o6 (ds++[])) (aCons (cS "it") (a1 (cC (.int 1)))))))) (a1 (cS "It is lit."))))) (aCons (nv rS (aCons (cS "light") (aCons (cL (nP n6)) (aCons (cL (nP (a1 (nU 12 (λds=>rP (ds++[])) (aCons (cS "it") (a1 (cC (.int 1)))))))) (a1 (cS "Lit.")))))) (aCons (nv oA (aCons (cS "douse") (aCons (cL (nP (a1 (nU 9 (λds=>pW (ds++[])) (a1 (nU 7 (λds=>pV (ds++[])) (aCons (cS "it") (a1 (cS "lamp"))))))))) (a1 (cS "It burns not."))))) (aCons (nv oA (aCons (cS "douse") (aCons (cL (nP (a1 (nU 6 (λds=>o6 (ds++[])) (aCons (cS "it") (a1 (cC (.int 0)))))))) (a1 (cS "It is out."))))) (a1 (nv rS (aCons (cS "douse") (aCons (cL (nP n6)) (aCons (cL (nP (a1 (nU 12 (λds=>rP (ds++[])) (aCons (cS "it") (a1 (cC (.int 0)))))))) (a1 (cS "Doused."))))))))))))))
def sy:=fnN 0 0 uX
def xk:FS:=(nz (qy 2 (nP (aCons (nU 3 (λds=>wx (ds++[])) (aCons (cV 0) (a1 (c2 dIx (cV 1) (cC (.int 0)))))) (a1 (nU 8 (λds=>w9 (ds++[])) (a1 (c2 dIx (cV 1) (cC (.int 1)))))))))
 (nz (sIf (cT (c2 ze (c2 dIx (cV 1) (cC (.int 3))) (cC D.non))) (pQ (uM 2 (nU 9 (λds=>pW (ds++[])) (a1 (nU 6 (λds=>o6 (ds++[])) (aCons (c2 dIx (cV 1) (cC (.int 3))) (a1 (cC (.int 0))))))))) oY)
 (pP (IH 2))))
def uw:=fnN 2 3 xk
def vo:FS:=(nz (ot 2 (cL (nJ 1 [0] (iL (cV 1)) (gN 0) oh (nv rS (aCons (cS "go") (aCons (cL (oN uw (aCons (cV 1) (a1 (cV 0))))) (aCons (cL (nP (a1 (nU 11 (λds=>qU (ds++[])) (aCons (cV 1) (a1 (c2 dIx (cV 0) (cC (.int 2))))))))) (a1 (cS "You go.")))))))))
 (pP (o4 (cV 2) (cL (nP (a1 (nv oA (aCons (cS "go") (aCons (cL (nP n6)) (a1 (cS "No way there.")))))))))))
def vp:=fnN 2 3 vo
def vV:FS:=(pP (nP (a1 (nv rS (aCons (cS "wait") (aCons (cL (nP n6)) (aCons (cL (nP n6)) (a1 (cS "Time goes by.")))))))))
def vW:=fnN 0 0 vV
def ux:FS:=(pP (o4 (cL (o4 (cL (o4 (cL (o4 (cL (o4 (cL (oN tO (a1 (cV 0)))) (cL (oN uu n6)))) (cL (oN uv n6)))) (cL (oN sy n6)))) (cL (oN vp (aCons (cV 0) (a1 (cV 1))))))) (cL (oN vW n6))))
def rT:=fnN 2 2 ux
def uy:FS:=(pP (o4 (cL (nJ 1 [] (iT (om (aCons (cS "take") (aCons (cS "drop") (aCons (cS "open") (aCons (cS "shut") (aCons (cS "light") (a1 (cS "douse"))))))))) (gN 0) oh (nU 2 (λds=>pU (ds++[D.non,(D.str "one"),D.non])) (a1 (cV 0))))) (cL (nP (aCons (nU 2 (λds=>pU (ds++[])) (aCons (cS "put") (aCons (om n6) (aCons (cS "two") (a1 (cS "in")))))) (aCons (nU 2 (λds=>pU (ds++[D.non])) (aCons (cS "go") (aCons (om n6) (a1 (cS "way"))))) (a1 (nU 2 (λds=>pU (ds++[D.non])) (aCons (cS "wait") (aCons (om n6) (a1 (cS "alone"))))))))))))
def qG:=fnN 0 0 uy
def wz:FS:=(nz (zh 1)
 (nz (sI (iL (cV 0)) (gN 2) (q8 1 (c1 (nR nO "name") (cV 2)) (cV 2)))
 (oK (cFz 1))))
def wC:=fnD 1 3 wz
def ra:FS:=(nz (zh 2)
 (nz (sI (iL (cV 0)) (gN 3) (sIf (cT (qo pb "has_mark" (cV 3) n6)) (q8 2 (c1 (nR nO "name") (cV 3)) (cC (.int 1))) oY))
 (nz (sI (iL (cV 1)) (gN 4) (q8 2 (c1 (nR nO "name") (cV 4)) (c1 (nR rM "most") (cV 4))))
 (oK (cFz 2)))))
def rb:=fnD 2 5 ra
def tW:FS:=(nz (zh 1)
 (nz (sI (iL (cV 0)) (gN 2) (sI (iT (wR (om (a1 (c1 (nR nO "name") (cV 2)))) (c1 (nR qN "others") (cV 2)))) (gN 3) (q8 1 (cV 3) (cV 2))))
 (oK (cFz 1))))
def rg:=fnD 1 4 tW
def zy:FS:=(Cd (nR rN "verb"))
def zz:=fnD 1 3 zy
def tX:FS:=(pP (nJ 1 [1] (iL (c1 (nR tS "kept_things") (cV 0))) (gN 0) (cT (c2 (dEq false) (c1 (nR oF "kind") (cV 0)) (cV 1))) (c1 (nR nO "name") (cV 0))))
def rh:=fnD 2 2 tX
def sA:Nat->Option (List D->Option D):=λc=>match c with
 |14=>some rh
 |_=>none
def sk:FS:=(pP (o4 (c1 (nR ui "kept_verbs") (cV 0)) (c1 (nR sO "shared_verbs") (cV 0))))
def vX:=fnD 1 1 sk
def rj:Nat->Option (List D->Option D):=λc=>match c with
 |14=>some vX
 |_=>none
def pB:FS:=(nz (sXp nZ (aCons (cV 1) (aCons (cV 2) (aCons (cV 3) (aCons (cV 4) (aCons (cV 5) (a1 (cL (oN qG n6)))))))))
 (nz (sNb (oa 14 0 "kept_things" (cL (uQ (cV 1)))))
 (nz (sNb (oa 14 0 "kept_marks" (cL (uQ (cV 2)))))
 (nz (sNb (oa 14 0 "kept_dark" (cL (uQ (cV 3)))))
 (nz (sNb (oa 14 0 "kept_ways" (cL (uQ (cV 4)))))
 (nz (sNb (oa 14 0 "kept_verbs" (cL (uQ (cV 5)))))
 (nz (sNb (oa 14 0 "shared_verbs" (cL (oN qG n6))))
 (nz (sNb (oa 14 0 "your_name" (uS 15 (c2 dIx (qo sA "of_kind" (cV 0) (a1 (cS "you"))) (cC (.int 0))))))
 (nz (sNb (oa 14 0 "things_by_name" (nv wC (a1 (cV 1)))))
 (nz (sNb (oa 14 0 "mosts_by_name" (nv rb (aCons (cV 1) (a1 (cV 2))))))
 (nz (sNb (oa 14 0 "verbs_by_word" (uS 15 (nv rg (a1 (qo rj "all_verbs" (cV 0) n6))))))
 (nz (sNb (ot 7 (uS 15 (pM (nv og (aCons (cV 6) (a1 (cC vQ)))) (c1 pL (cL (nJ 1 [0] (iL (cV 6)) (gN 0) oh yf)))))))
 (nz (sXp nq (aCons (cV 7) (a1 (cS "rules are a list of at most 20 rules, each as it may be"))))
 (nz (sNb (oa 14 0 "kept_rules" (cL (uQ (cV 6)))))
 (nz (sNb (oa 14 0 "shared_rules" (uS 15 (cL (oN rT (aCons (c1 (nR uT "your_name") (cV 0)) (a1 (cV 4))))))))
 (nz (sNb (oa 14 0 "copied_rules" (cL (nJ 1 [] (iL (cV 6)) (gN 0) oh yf))))
 (sNb (oa 14 0 "rules_by_verb" (uS 15 (nv zz (a1 (cL (o4 (c1 (nR sM "copied_rules") (cV 0)) (c1 (nR sN "shared_rules") (cV 0)))))))))))))))))))))))))
def pC:=fnXI 14 6 8 pB
def uz:FS:=(nz (sIf (cT (c2 A9 (cV 1) (c1 oR (cV 0)))) (oK (c2 dIx (cV 0) (cV 1))) oY)
 (oK (cC (.int 0))))
def pZ:=fnD 2 2 uz
def rD:FS:=(nz (sIf (rp (cT (c2 (dEq false) (c1 oR (cV 0)) (cC (.int 1))))) (nz (ot 2 (tG (c2 dIx (cV 0) (cC (.int 0)))))
 (nz (sq 0 0 (c2 rK (cV 2) (c1 LP (c2 Lx (cV 2) (c2 FK (cC (.int 10)) (cC (.int 18)))))))
 (pQ (IG 0 (nP (aCons (c2 qe (cV 2) (cC (.int 2147483647))) (a1 (cC (.int 0))))))))) oY)
 (nz (sIf (rp (cT (c2 FL (c2 dIx (cV 0) (cC (.int 0))) (cC (.int 0))))) (nz (ot 3 (tG (c2 qe (c2 dIx (cV 0) (cC (.int 0))) (cV 1))))
 (nz (sq 0 0 (tG (c2 sJ (c2 dIx (cV 0) (cC (.int 0))) (cV 1))))
 (oK (cV 3)))) oY)
 (nz (sq 0 2 (tG (c2 qd (c2 dIx (cV 0) (cC (.int 2))) (cC (.int 1)))))
 (nz (ot 4 (tG (c2 qe (c2 rK (c2 qd (c2 qd (c2 dIx (cV 0) (cC (.int 1))) (c2 rK (cC (.int 7919)) (c2 dIx (cV 0) (cC (.int 2))))) (cC (.int 1))) (cC (.int 48271))) (cC (.int 2147483647)))))
 (nz (ot 4 (c2 qe (c2 rK (cV 4) (c2 qd (c2 sJ (cV 4) (cC (.int 1009))) (cC (.int 69621)))) (cC (.int 2147483647))))
 (oK (c2 qe (c2 qe (c2 rK (cV 4) (c2 qd (c2 sJ (cV 4) (cC (.int 2003))) (cC (.int 40692)))) (cC (.int 2147483399))) (cV 1))))))))
def nF:=fnM 1 5 rD
def sC:FS:=(nz (ot 1 (cL (vc (cL (nP (aCons (cS "hall") (aCons (cS "x") (aCons (cS "cellar") (aCons (cS "loft") (a1 (cS "porch")))))))) oNo (oAt (c2 qd (cC (.int 1)) (p7 nF 0 (a1 (cC (.int 5)))))))))
 (nz (qy 2 (nJ 1 [] (iL (cV 1)) (gN 0) oh (nU 0 (λds=>oZ (ds++[D.non])) (aCons (cV 0) (aCons (om (aCons (cV 0) (a1 (cS "place")))) (a1 (cS "room")))))))
 (nz (pQ (uM 2 (nU 0 (λds=>oZ (ds++[])) (aCons (cS "me") (aCons (om (aCons (cS "me") (a1 (cS "self")))) (aCons (cS "you") (a1 (c2 dIx (cV 1) (p7 nF 0 (a1 (c1 oR (cV 1))))))))))))
 (nz (qy 3 (o4 (cV 1) (cL (nP (a1 (cS "me"))))))
 (nz (ot 4 (cL (nP (aCons (om (aCons (cS "chest") (a1 (om (aCons (cS "old") (a1 (cS "chest"))))))) (aCons (om (aCons (cS "lamp") (a1 (om (aCons (cS "lamp") (a1 (cS "red"))))))) (aCons (om (aCons (cS "stone") (a1 (om (aCons (cS "red") (a1 (cS "stone"))))))) (a1 (om (aCons (cS "key") (a1 (om (a1 (cS "key")))))))))))))
 (nz (ot 5 (p7 nF 0 (a1 (cC (.int 4)))))
 (nz (sI (iR1 (p7 nF 0 (a1 (cC (.int 5))))) (gN 6) (nz (xW (c2 dIx (cV 4) (c2 qe (c2 qd (cV 6) (cV 5)) (cC (.int 4)))) (gT (qb (gN 7) (qb (gN 8) wN)) 2))
 (nz (ot 9 (c2 dIx (cL (nP (aCons (cS "plain") (aCons (cS "box") (aCons (cS "lamp") (a1 (cS "fixed"))))))) (p7 nF 0 (a1 (cC (.int 4))))))
 (nz (pQ (uM 2 (nU 0 (λds=>oZ (ds++[])) (aCons (cV 7) (aCons (cV 8) (aCons (cV 9) (a1 (wg 3 (p7 nF 0 (a1 (tG (c1 oR (cV 3)))))))))))))
 (sIf (cT (c2 (dEq false) (cV 9) (cS "box"))) (pQ (uM 3 (cV 7))) oY)))))
 (pP (o4 (cFz 2) (cL (nP (aCons (nU 0 (λds=>oZ (ds++[])) (aCons (cS "case") (aCons (om (a1 (cS "case"))) (aCons (cS "box") (a1 (cS "hall")))))) (a1 (nU 0 (λds=>oZ (ds++[])) (aCons (cS "candle") (aCons (om (a1 (cS "candle"))) (aCons (cS "lamp") (a1 (cS "me")))))))))))))))))))
def sD:=fnM 0 10 sC
def vY:FS:=(nz (ot 0 (cL (nP (aCons (cS "it") (aCons (cS "here") (aCons (cS "the") (aCons (cS "undo") (aCons (cS "") (aCons (cS "Gate") (aCons (cS "ninesigns") (aCons (cC D.non) (aCons (cC (.int 5)) (aCons (cS "hall") (aCons (cS "case") (aCons (cS "candle") (a1 (cS "me")))))))))))))))))
 (nz (qy 1 (nJ 1 [] (iL (cV 0)) (gN 0) oh (cL (nP (a1 (nU 1 (λds=>oo (ds++[])) (aCons (cV 0) (aCons (cC (.int 0)) (a1 (cC (.int 1)))))))))))
 (nz (sI (iL (cL (nP (aCons (om (aCons (cC (.int 0)) (a1 (cC (.int 0))))) (aCons (om (aCons (cC (.int 0)) (a1 (cC (.int 4))))) (aCons (om (aCons (cC (.int 0)) (a1 (cC (.bl true))))) (aCons (om (aCons (cC (.int 1)) (a1 (cS "1")))) (aCons (om (aCons (cC (.int 0)) (a1 (cC D.non)))) (aCons (om (aCons (c1 zp (cC (.int 1))) (a1 (cC (.int 1))))) (aCons (om (aCons (cC (.int 2)) (a1 (cC (.int 1))))) (aCons (om (aCons (cC (.bl true)) (a1 (cC (.int 1))))) (aCons (om (aCons (cC (.bl false)) (a1 (cC (.int 2))))) (a1 (om (aCons (cC (.int 4)) (a1 (cC (.int 3)))))))))))))))))) (gT (qb (gN 2) (qb (gN 3) wN)) 2) (pQ (uM 1 (cL (nP (a1 (nU 1 (λds=>oo (ds++[])) (aCons (cS "odd") (aCons (cV 2) (a1 (cV 3)))))))))))
 (nz (qy 1 (o4 (cFz 1) (cL (nP (aCons (cL (nP (a1 (nU 1 (λds=>oo (ds++[])) (aCons (cS "odd") (aCons (cC D.non) (a1 (cC (.int 1))))))))) (aCons (cL (nP (a1 (nU 1 (λds=>oo (ds++[])) (aCons (cS "odd") (aCons (cS "0") (a1 (cC (.int 1))))))))) (aCons (cL (nP (a1 (nU 1 (λds=>oo (ds++[])) (aCons (cS "odd") (aCons (cC (.int 0)) (a1 (c1 zp (cC (.int 1)))))))))) (a1 (cL (nP (a1 (nU 1 (λds=>oo (ds++[])) (aCons (cS "odd") (aCons (cC (.int 3)) (a1 (cC (.int 2)))))))))))))))))
 (pP (o4 (cFz 1) (cL (nP (aCons (cL (nP (aCons (nU 1 (λds=>oo (ds++[])) (aCons (cS "odd") (aCons (cC (.int 0)) (a1 (cC (.int 1)))))) (a1 (nU 1 (λds=>oo (ds++[])) (aCons (cS "odd") (aCons (cC (.int 1)) (a1 (cC (.int 3)))))))))) (a1 (cL (nP (aCons (nU 1 (λds=>oo (ds++[])) (aCons (cS "luck") (aCons (cC (.int 0)) (a1 (cC (.int 1)))))) (a1 (nU 1 (λds=>oo (ds++[])) (aCons (cS "luck") (aCons (cC (.int 0)) (a1 (cC (.int 1))))))))))))))))))))
def qH:=fnD 0 4 vY
def xl:FS:=(nz (ot 0 (cL (nP (aCons (cL (nP (a1 (cS "nobody")))) (aCons (cL (nP (a1 (cS "case")))) (aCons (cL (nP (a1 (cS "me")))) (aCons (cL (nP (a1 (cC D.non)))) (aCons (cL (nP (a1 (cC (.int 3))))) (aCons (cL (nP (aCons (cS "odd") (a1 (cS "odd"))))) (aCons (cL (nP (a1 (om (a1 (cS "hall")))))) (a1 (cL (nP (a1 (cS "here")))))))))))))))
 (pP (o4 (cV 0) (cL (nP (a1 (cL (nP (aCons (cS "hall") (a1 (cS "hall")))))))))))
def qV:=fnD 0 1 xl
def xm:FS:=(nz (ot 0 (cL (nP (aCons (om (aCons (cS "hall") (aCons (cS "down") (a1 (cS "hall"))))) (aCons (cL (nP (aCons (cS "hall") (aCons (cS "down") (aCons (cS "hall") (a1 (cC D.non))))))) (aCons (om (aCons (cS "hall") (aCons (cS "down") (aCons (cS "hall") (aCons (cC D.non) (a1 (cC D.non))))))) (aCons (cC D.non) (a1 (cS "way")))))))))
 (nz (ot 0 (cL (o4 (cV 0) (cL (nP (aCons (om (aCons (cS "me") (aCons (cS "down") (aCons (cS "hall") (a1 (cC D.non)))))) (aCons (om (aCons (cS "hall") (aCons (cS "down") (aCons (cS "me") (a1 (cC D.non)))))) (a1 (om (aCons (cS "hall") (aCons (cS "down") (aCons (cS "case") (a1 (cC D.non))))))))))))))
 (nz (ot 0 (cL (o4 (cV 0) (cL (nP (aCons (om (aCons (cS "nobody") (aCons (cS "down") (aCons (cS "hall") (a1 (cC D.non)))))) (aCons (om (aCons (cS "hall") (aCons (cS "down") (aCons (cS "nobody") (a1 (cC D.non)))))) (a1 (om (aCons (cC D.non) (aCons (cS "down") (aCons (cS "hall") (a1 (cC D.non))))))))))))))
 (nz (ot 0 (cL (o4 (cV 0) (cL (nJ 1 [] (iL (cL (nP (aCons (cS "Down") (aCons (cS "") (aCons (cS "the") (aCons (cS "a") (aCons (cS "thirteensigns") (aCons (cC D.non) (aCons (cC (.int 3)) (a1 (cS "b2")))))))))))) (gN 0) oh (om (aCons (cS "hall") (aCons (cV 0) (aCons (cS "hall") (a1 (cC D.non)))))))))))
 (nz (ot 0 (cL (o4 (cV 0) (cL (nJ 1 [] (iL (cL (nP (aCons (cS "nobody") (aCons (cS "hall") (aCons (cS "me") (aCons (cC (.int 3)) (aCons (cS "") (aCons (cC (.bl true)) (a1 (cS "down"))))))))))) (gN 0) oh (om (aCons (cS "hall") (aCons (cS "down") (aCons (cS "hall") (a1 (cV 0)))))))))))
 (nz (qy 1 (nJ 1 [] (iL (cV 0)) (gN 0) oh (cL (nP (a1 (cV 0))))))
 (nz (pQ (uM 1 (cL (nP (aCons (om (aCons (cS "hall") (aCons (cS "down") (aCons (cS "hall") (a1 (cC D.non)))))) (a1 (om (aCons (cS "hall") (aCons (cS "down") (aCons (cS "hall") (a1 (cS "case"))))))))))))
 (pP (o4 (cFz 1) (cL (nP (a1 (cL (nP (aCons (om (aCons (cS "hall") (aCons (cS "down") (aCons (cS "hall") (a1 (cC D.non)))))) (a1 (om (aCons (cS "hall") (aCons (cS "down") (aCons (cS "hall") (a1 (cC D.non))))))))))))))))))))))
def qX:=fnD 0 2 xm
def qI:FS:=(nz (sTry pC (aCons (cV 0) (aCons (cV 1) (aCons (cV 2) (aCons (cV 3) (aCons (cL (nP n6)) (a1 (cL (nP n6)))))))) (oK (cC (.bl true))))
 (oK (cC (.bl false))))
def oj:=fnD 4 4 qI
def uA:FS:=(nz (ot 2 (cL (nJ 1 [] (iL (cV 0)) (gN 0) (cT (c2 (dEq false) (c1 (nR oF "kind") (cV 0)) (cS "room"))) (c1 (nR nO "name") (cV 0)))))
 (nz (ot 3 (cL (nJ 1 [1] (iL (cL (vc (cL (nP (aCons (cS "gate") (aCons (cS "tide") (a1 (cS "i")))))) oNo (oAt (p7 nF 1 (a1 (cC (.int 4)))))))) (gN 0) oh (nU 1 (λds=>oo (ds++[])) (aCons (cV 0) (aCons (cC (.int 1)) (a1 (c2 qd (cC (.int 1)) (p7 nF 1 (a1 (cC (.int 3))))))))))))
 (nz (ot 4 (cL (nJ 1 [1] (iL (cV 2)) (gN 0) (vC (cT (c2 (dEq true) (cV 0) (cS "hall"))) (cT (c2 (dEq false) (p7 nF 1 (a1 (cC (.int 2)))) (cC (.int 1))))) (cV 0))))
 (nz (ot 5 (cL (o4 (cL (nP (aCons (cC D.non) (aCons (cS "case") (a1 (cS "candle")))))) (cL (nJ 1 [] (iL (cV 3)) (gN 0) oh (c1 (nR nO "name") (cV 0)))))))
 (nz (qy 6 (nP n6))
 (nz (sI (iL (cV 2)) (gN 7) (sI (iL (cL (vc (cL (nP (aCons (cS "north") (a1 (cS "up"))))) oNo (oAt (p7 nF 1 (a1 (cC (.int 3)))))))) (gN 8) (nz (ot 9 (c2 dIx (cV 2) (p7 nF 1 (a1 (c1 oR (cV 2))))))
 (sIf (rp (cT (c2 A9 (c1 oR (cV 6)) (cC (.int 8))))) (pQ (uM 6 (om (aCons (cV 7) (aCons (cV 8) (aCons (cV 9) (a1 (c2 dIx (cV 5) (p7 nF 1 (a1 (c1 oR (cV 5)))))))))))) oY))))
 (oK (om (aCons (cV 3) (aCons (cV 4) (a1 (cFz 6))))))))))))
def uB:=fnL 1 10 uA
def vq:FS:=(nz (ot 3 (c2 qe (cV 2) (c2 qd (c1 oR (cV 0)) (cC (.int 1)))))
 (pP (o4 (cL (o4 (cL (vc (cV 0) oNo (oAt (cV 3)))) (cV 1))) (cL (vc (cV 0) (oAt (cV 3)) oNo)))))
def rV:=fnD 3 4 vq
def Dt:FS:=(nz (qy 1 (nP (a1 (nv pZ (aCons (cV 0) (a1 (cC (.int 0))))))))
 (nz (ot 2 (p7 sD 1 n6))
 (nz (xW (yh uB 1 (a1 (cV 2))) (gT (qb (gN 3) (qb (gN 4) (qb (gN 5) wN))) 3))
 (nz (sIf (cT (nv oj (aCons (cV 2) (aCons (cV 3) (aCons (cV 4) (a1 (cV 5))))))) (oK (cC (.bl false))) oY)
 (nz (ot 6 (cL (o4 (cL (o4 (cL (nJ 1 [] (iL (nv qH n6)) (gN 0) oh (om (aCons (cC (.int 0)) (a1 (cV 0)))))) (cL (nJ 1 [] (iL (nv qV n6)) (gN 0) oh (om (aCons (cC (.int 1)) (a1 (cV 0)))))))) (cL (nJ 1 [] (iL (nv qX n6)) (gN 0) oh (om (aCons (cC (.int 2)) (a1 (cV 0)))))))))
 (nz (sI (iR2 (cC (.int 1)) (c2 dMax2 (cC (.int 2)) (c2 dMin2 (cC (.int 40)) (c1 oR (cV 0))))) (gN 7) (nz (ot 8 (nv pZ (aCons (cV 0) (a1 (cV 7)))))
 (nz (xW (c2 dIx (cV 6) (c2 qe (c2 qd (cV 8) (c2 rK (cC (.int 7)) (cV 7))) (c1 oR (cV 6)))) (gT (qb (gN 9) (qb (gN 10) wN)) 2))
 (nz (qy 11 (nP (aCons (cV 3) (aCons (cV 4) (a1 (cV 5))))))
 (nz (sIxPut 11 9 (nv rV (aCons (wg 11 (cV 9)) (aCons (cV 10) (a1 (c2 sJ (cV 8) (c1 oR (cV 6))))))))
 (sIf (rp (sd (cT (nv oj (aCons (cV 2) (aCons (c2 dIx (cV 11) (cC (.int 0))) (aCons (c2 dIx (cV 11) (cC (.int 1))) (a1 (c2 dIx (cV 11) (cC (.int 2))))))))))) (oK (cC (.bl false))) oY))))))
 (oK (yR (nv oj (aCons (cV 2) (aCons (cV 3) (aCons (cV 4) (a1 (cV 5))))))))))))))
def Km:=fnD 1 12 Dt
variable{b:Int}
theorem yF{q r n:Int}{s2:Sl}(h0:0<b)(h1:b<1073741824):∃d es' ρ,(nz (sIf (rp (cT (c2 FL (c2 dIx (cV 0) (cC (.int 0))) (cC (.int 0))))) (nz (ot 3 (tG (c2 qe (c2 dIx (cV 0) (cC (.int 0))) (cV 1))))
 (nz (sq 0 0 (tG (c2 sJ (c2 dIx (cV 0) (cC (.int 0))) (cV 1))))
 (oK (cV 3)))) oY)
 (nz (sq 0 2 (tG (c2 qd (c2 dIx (cV 0) (cC (.int 2))) (cC (.int 1)))))
 (nz (ot 4 (tG (c2 qe (c2 rK (c2 qd (c2 qd (c2 dIx (cV 0) (cC (.int 1))) (c2 rK (cC (.int 7919)) (c2 dIx (cV 0) (cC (.int 2))))) (cC (.int 1))) (cC (.int 48271))) (cC (.int 2147483647)))))
 (nz (ot 4 (c2 qe (c2 rK (cV 4) (c2 qd (c2 sJ (cV 4) (cC (.int 1009))) (cC (.int 69621)))) (cC (.int 2147483647))))
 (oK (c2 qe (c2 qe (c2 rK (cV 4) (c2 qd (c2 sJ (cV 4) (cC (.int 2003))) (cC (.int 40692)))) (cC (.int 2147483399))) (cV 1)))))))
  [.pm [.int q,.int r,.int n],.im (.int b),s2,.un,.un]=some (.rt (.int d) ρ)/\vG ρ=some es'/\0<=d/\d<b/\rY es':=by
 have hc:rp (cT (c2 FL (c2 dIx (cV 0) (cC (.int 0))) (cC (.int 0)))) [.pm [.int q,.int r,.int n],.im (.int b),s2,.un,.un]=some (decide (0<q),[.pm [.int q,.int r,.int n],.im (.int b),s2,.un,.un]):=rfl;by_cases hq:0<q
 ·rw[aH hq]at hc;refine⟨q % b,[.int (q / b),.int r,.int n],[.pm [.int (q / b),.int r,.int n],.im (.int b),s2,.im (.int (q % b)),.un],?_,rfl,eJ _ (by omega),eE _ h0,.inr ⟨_,_,_,rfl⟩⟩;rw[rF (d:=.int (q % b)) (ρ':=[.pm [.int (q / b),.int r,.int n],.im (.int b),s2,.im (.int (q % b)),.un])];rw[se hc,ni (ou (Ac (nW rfl rfl (sf h0)) rfl)),ni (Bc (k:=0) (Ac (nW rfl rfl (div_pos h0 h1)) rfl) rfl rfl)];rfl
 ·rw[aQ hq]at hc;rw[ni (show _=some (Out.nx [.pm [.int q,.int r,.int n],.im (.int b),s2,.un,.un]) from by rw[qQ hc];rfl)];rw[ni (show _=some (Out.nx [.pm [.int q,.int r,.int (n+1)],.im (.int b),s2,.un,.un]) from rfl)];have h7:sm 7919=true:=by decide
  have h4:sm 48271=true:=by decide
  rw[ni (ou (Ac (d:=.int ((r+7919 * (n+1)+1) * 48271 % 2147483647)) (nW (nW (nW (nW rfl (nW rfl rfl (rG (.inl h7))) rfl) rfl rfl) rfl (rG (.inr h4))) rfl (sf (by decide))) rfl))];generalize hg:(r+7919 * (n+1)+1) * 48271 % 2147483647=g;have g0:0<=g/\g<2147483647:=by rw[<-hg];exact⟨eJ _ (by decide),eE _ (by decide)⟩
  rw[ni (ou (d:=.int (g * (g / 1009+69621) % 2147483647)) (nW (nW rfl (nW (nW rfl rfl (div_pos (by decide) (by decide))) rfl rfl) (rG (.inl (Bd g0.1 g0.2)))) rfl (sf (by decide))))];generalize hh:g * (g / 1009+69621) % 2147483647=m;have m0:0<=m/\m<2147483647:=by rw[<-hh];exact⟨eJ _ (by decide),eE _ (by decide)⟩
  rw[qc (d:=.int (m * (m / 2003+40692) % 2147483399 % b)) (nW (nW (nW rfl (nW (nW rfl rfl (div_pos (by decide) (by decide))) rfl rfl) (rG (.inl (Bd m0.1 m0.2)))) rfl (sf (by decide))) rfl (sf h0))];exact⟨_,[.int q,.int r,.int (n+1)],_,rfl,rfl,eJ _ (by omega),eE _ h0,.inr ⟨_,_,_,rfl⟩⟩
variable{es:List L4.D}
theorem Bs(h:rY es)(h0:0<b)(h1:b<1073741824):∃d es',nF es [.int b]=some (.int d,es')/\0<=d/\d<b/\rY es':=by
 rcases h with ⟨c,rfl⟩|⟨q,r,n,rfl⟩
 ·obtain⟨d,es',ρ,e,p,q1,q2,q3⟩:=yF (q:=c * (if decide ((10:Int) ^ (18:Int).toNat<=c)=true then 1 else 0)) (r:=c % 2147483647) (n:=0) (s2:=.im (.int c)) h0 h1;refine⟨d,es',F2 rfl ?_ p,q1,q2,q3⟩;unfold rD;rw[ni (ρ':=[.pm [.int (c * (if decide ((10:Int) ^ (18:Int).toNat<=c)=true then 1 else 0)),.int (c % 2147483647),.int 0],.im (.int b),.im (.int c),.un,.un])]
  ·exact e
  ·show sIf _ _ _ [.pm [.int c],.im (.int b),.un,.un,.un]=_;rw[se (ρ':=[.pm [.int c],.im (.int b),.un,.un,.un]) rfl,ni (show _=some (Out.nx [.pm [.int c],.im (.int b),.im (.int c),.un,.un]) from rfl)];rw[ni (Bc (k:=0) (ds:=[.int c]) (nW rfl rfl (rG (.inr (by split<;>decide)))) rfl rfl)];rfl
 ·obtain⟨d,es',ρ,e,p,q1,q2,q3⟩:=yF (q:=q) (r:=r) (n:=n) (s2:=.un) h0 h1;refine⟨d,es',F2 rfl ?_ p,q1,q2,q3⟩;unfold rD;rw[ni (ρ':=[.pm [.int q,.int r,.int n],.im (.int b),.un,.un,.un])]
  ·exact e
  ·show sIf _ _ _ [.pm [.int q,.int r,.int n],.im (.int b),.un,.un,.un]=_;rw[qQ (ρ':=[.pm [.int q,.int r,.int n],.im (.int b),.un,.un,.un]) rfl];rfl
variable{i:Nat}{a:FE}
theorem dgx(st:List L4.D->List Sl)(hp:∀es,oM (st es) i=some es)(hq:∀es es',putAt (st es) i es'=st es')(ha:a (st es)=some (.int b,st es))(hs:rY es)(h0:0<b)(h1:b<1073741824):∃d es',p7 nF i (a1 a) (st es)=some (.int d,st es')/\0<=d/\d<b/\rY es':=by obtain⟨d,es',e,q1,q2,q3⟩:=Bs hs h0 h1;exact⟨d,es',by rw[<-hq es es'];exact B3 (hp es) (nD ha rfl) (hp es) e,q1,q2,q3⟩
variable{e:FE}
theorem pk{L:List L4.D}(st:List L4.D->List Sl)(hp:∀es,oM (st es) i=some es)(hq:∀es es',putAt (st es) i es'=st es')(he:e (st es)=some (.lst L,st es))(ha:a (st es)=some (.int L.length,st es))(hs:rY es)(h0:L≠[])(h1:L.length<=1000):∃d∈L,∃es',c2 dIx e (p7 nF i (a1 a)) (st es)=some (d,st es')/\rY es':=by
 have hp0:0<L.length:=jF.mpr h0;obtain⟨d,es',e1,q1,q2,q3⟩:=dgx st hp hq ha hs (by omega) (by omega);obtain⟨m,rfl⟩:=cI q1;have hm:m<L.length:=by omega
 exact⟨L[m],dR hm,es',nW he e1 (sY (aP hm)),q3⟩
variable{q:List L4.D->Option Bool}
section
variable{k:Nat}{cap:List Nat}{g:FG}{ft:FT}{fe e:FE}{s a:FA}{ρ ρ1 ρ2:List Sl}{α:Type}{f f2:FS}{np n:Nat}{ds:List L4.D}
theorem oH{m:L4.D}(h:e ρ=some (.bl true,ρ1)):sXp nq (aCons e (aCons (cC m) n6)) ρ=some (.nx ρ1):=by unfold sXp;rw[nD h (nD rfl rfl)];rfl
theorem sT{m:L4.D}(h:e ρ=some (.bl false,ρ1)):sXp nq (aCons e (aCons (cC m) n6)) ρ=some (.bk ρ1):=by unfold sXp;rw[nD h (nD rfl rfl)];rfl
theorem uC(h:f ρ=some (.bk ρ1)):nz f f2 ρ=some (.bk ρ1):=by unfold nz;rw[h]
theorem qa(h:f ρ=some (.nx ρ1)):sNb f ρ=some (.nx ρ1):=by unfold sNb;rw[h]
theorem Aq(h:ds.length=np)(e:f (stE n ds)=some (.nx ρ)):fnX np n f ds=some true:=by unfold fnX;rw[ag h,e]
theorem uD(h:ds.length=np)(e:f (stE n ds)=some (.bk ρ)):fnX np n f ds=some false:=by unfold fnX;rw[ag h,e]
theorem vZ(h:a ρ=some (ds,ρ1))(e:q ds=some true):sXp q a ρ=some (.nx ρ1):=by unfold sXp;rw[h];simp only[e]
theorem GO(h:a ρ=some (ds,ρ1))(e:q ds=some false):sXp q a ρ=some (.bk ρ1):=by unfold sXp;rw[h];simp only[e]
theorem sU(dd h:α->L4.D)(l:List α)(hs:s ρ=some (l.map dd,ρ1))(hl:l.length<=1000)(st:∀a∈l,∃ρ2 ρ3,g (dd a) (vH k cap ρ1)=some ρ2/\fe ρ2=some (h a,ρ3)/\qq cap (ρ3.drop k) ρ1=some ρ1):
  nJ k cap s g oh fe ρ=some (l.map h,ρ1):=(xB hs (by rw[af];exact hl)).trans (Jp dd h l st)
theorem uE(dd h:α->L4.D)(p:α->Bool)(l:List α)(hs:s ρ=some (l.map dd,ρ1))(hl:l.length<=1000)
  (st:∀a∈l,∃ρ2 ρ3,g (dd a) (vH k cap ρ1)=some ρ2/\ft ρ2=some (p a,ρ3)/\(p a=true->∃ρ4,fe ρ3=some (h a,ρ4)/\qq cap (ρ4.drop k) ρ1=some ρ1)/\(p a=false->qq cap (ρ3.drop k) ρ1=some ρ1)):
  nJ k cap s g ft fe ρ=some ((l.filter p).map h,ρ1):=(xB hs (by rw[af];exact hl)).trans (yj dd p h l st)
theorem qJ(dd:α->L4.D)(p:α->Bool)(l:List α)(hs:s ρ=some (l.map dd,ρ1))(hl:l.length<=1000)(st:∀a∈l,∃ρ2 ρ3,g (dd a) (vH k cap ρ1)=some ρ2/\fe ρ2=some (.bl (p a),ρ3)/\qq cap (ρ3.drop k) ρ1=some ρ1):
  c1 pL (cL (nJ k cap s g oh fe)) ρ=some (.bl (l.all p),ρ1):=oi (oU (sU dd (λa=>.bl (p a)) l hs hl st)) (Jr l p)
theorem Du(dd:α->L4.D)(p:α->Bool)(l:List α)(hs:s ρ=some (l.map dd,ρ1))(hl:l.length<=1000)(st:∀a∈l,∃ρ2 ρ3,g (dd a) (vH k cap ρ1)=some ρ2/\fe ρ2=some (.bl (p a),ρ3)/\qq cap (ρ3.drop k) ρ1=some ρ1):
  c1 ye (cL (nJ k cap s g oh fe)) ρ=some (.bl (l.any p),ρ1):=oi (oU (sU dd (λa=>.bl (p a)) l hs hl st)) (Js l p)
end
theorem Ar{α:Type}{l:List α}{p:α->Bool}{a:α}(h:a∈l)(e:p a=false):l.all p=false:=by rw[fF];intro z;rw[aK.mp z a h]at e;cases e
theorem qK{α:Type}{l:List α}{p:α->Bool}(h:∀a∈l,p a=true):l.all p=true:=aK.mpr h
def isT:Option L4.D->Bool
 |some (.bl b)=>b
 |_=>false
def isB:Option L4.D->Bool
 |some (.bl _)=>true
 |_=>false
variable{o:Option L4.D}
theorem As(h:isB o=true):o=some (.bl (isT o)):=by
 unfold isB at h;split at h
 ·rfl
 ·cases h
theorem Au(h:isT o=true):o=some (.bl true):=by
 unfold isT at h;split at h
 ·rw[h]
 ·cases h
inductive Kd where
 |room|you|plain|fixed|box|lamp
deriving DecidableEq
def Kd.s:Kd->Str
 |.room=>"room" |.you=>"you" |.plain=>"plain" |.fixed=>"fixed" |.box=>"box" |.lamp=>"lamp"
def Kd.pl:Kd->Bool
 |.room=>false|.you=>false|_=>true
def Kd.hd:Kd->Bool
 |.room=>true|.you=>true|.box=>true|_=>false
def Kd.mk:Kd->Bool
 |.box=>true|.lamp=>true|_=>false
structure Tk where
 n:L4.D
 w:L4.D
 k:Kd
 s:L4.D
def tkD(t:Tk):L4.D:=.obj 0 ["name", "words", "kind", "start"] [t.n,t.w,.str t.k.s,t.s]
abbrev LD(T:List Tk):L4.D:=.lst (T.map tkD)
theorem zA(a b:Kd):dEq false (.str a.s) (.str b.s)=some (.bl (decide (a=b))):=by cases a<;>cases b<;>kernel_rfl
theorem wD(t:Tk):nR oF "kind" (tkD t)=some (.str t.k.s):=rfl
theorem sE(t:Tk):nR nO "name" (tkD t)=some t.n:=rfl
theorem xH(t:Tk):nR oV "words" (tkD t)=some t.w:=rfl
theorem xI(t:Tk):nR p9 "start" (tkD t)=some t.s:=rfl
theorem JF(t:Tk):sQ [tkD t]=some (.bl t.k.hd):=by obtain⟨n,w,k,s⟩:=t;cases k<;>kernel_rfl
theorem Dv(t:Tk):sS [tkD t]=some (.bl t.k.mk):=by obtain⟨n,w,k,s⟩:=t;cases k<;>kernel_rfl
theorem GP(t:Tk):rR [tkD t]=some (.bl t.k.pl):=by obtain⟨n,w,k,s⟩:=t;cases k<;>kernel_rfl
theorem JG(k:Kd):nX [.str k.s,xG]=some (.bl true):=by cases k<;>kernel_rfl
def cK(k:Kd)(T:List Tk):Nat:=(T.filter λt=>decide (t.k=k)).length
def plN(T:List Tk):List Tk:=T.filter λt=>t.k.pl
theorem count_eq(T:List Tk)(hl:T.length<=1000)(k:Kd):qP [LD T,.str k.s]=some (.int (cK k T)):=by refine pd (ρ:=[.im (LD T),.im (.str k.s)]) rfl ?_;refine qc (oi (oU (uE tkD tkD (λt=>decide (t.k=k)) T (ρ1:=[.im (LD T),.im (.str k.s)]) rfl hl λt _=>⟨[.im (tkD t),.im (.str k.s)],[.im (tkD t),.im (.str k.s)],rfl,uN (nW (oi rfl (wD t)) rfl (zA t.k k)),λ_=>⟨_,rfl,rfl⟩,λ_=>rfl⟩)) ?_);show some (D.int _)=_;rw[af];rfl
theorem sF(T:List Tk)(hl:T.length<=1000):pj [LD T]=some ((plN T).map tkD):=by refine Ae (ρ:=[.im (LD T)]) rfl ?_;exact tH (uE tkD tkD (λt=>t.k.pl) T (ρ1:=[.im (LD T)]) rfl hl λt _=>⟨[.im (tkD t)],[.im (tkD t)],rfl,uN (vN (xs:=[t.n,t.w,.str t.k.s,t.s]) (ys:=[]) rfl rfl rfl rfl (GP t)),λ_=>⟨_,rfl,rfl⟩,λ_=>rfl⟩)
variable{ρ:List Sl}{x y:Int}
theorem GQ{b c:FE}{z:Int}(h1:a ρ=some (.int x,ρ))(h2:b ρ=some (.int y,ρ))(h3:c ρ=some (.int z,ρ))(hx:x<=y)(hy:y<=z):qj rX rX a b c ρ=some (.bl true,ρ):=by
 unfold qj;rw[h1];simp only[h2];have e1:rX (.int x) (.int y)=some (.bl true):=by show some (D.bl (decide (x<=y)))=_;rw[aH hx]
 have e2:rX (.int y) (.int z)=some (.bl true):=by show some (D.bl (decide (y<=z)))=_;rw[aH hy]
 simp only[e1,h3,e2]
theorem Ph{b:FE}(h1:a ρ=some (.int x,ρ))(h2:b ρ=some (.int y,ρ))(hx:x<=y):c2 rX a b ρ=some (.bl true,ρ):=nW h1 h2 (by
 show some (D.bl (decide (x<=y)))=_;rw[aH hx])
section
variable{T:List Tk}(hl:T.length<=1000)(h1:1<=cK .room T)(h5:cK .room T<=5)
include hl h1 h5
theorem JH{r:FS}:∃ρ:List Sl,ρ=[.im (LD T),.im (.bl true)]/\(∀o,r ρ=some o->(nz (sNb (ot 1 (pM (c1 (qB (pG "list")) (cV 0)) (c1 pL (cL (nJ 1 [] (iL (cV 0)) (gN 0) oh (c1 (qB Ap) (cV 0))))))))
 (nz (sXp nq (aCons (cV 1) (a1 (cS "things are a list of things"))))
 (nz (sXp nq (aCons (c1 pL (cL (nJ 1 [] (iL (cV 0)) (gN 0) oh (nv nX (aCons (c1 (nR oF "kind") (cV 0)) (a1 (cC xG))))))) (a1 (cS "a thing is of no kind"))))
 (nz (sXp nq (aCons (qj rX rX (cC (.int 1)) (nv qP (aCons (cV 0) (a1 (cS "room")))) (cC tL)) (a1 (cS "a world has 1 to 5 rooms")))) r)))) [.im (LD T),.un]=some o):=by
 refine⟨_,rfl,λo h=>?_⟩;let ρ:List Sl:=[.im (LD T),.im (.bl true)];rw[ni (qa (show _=some (Out.nx ρ) from(ou ((pS rfl).trans ((qJ tkD (λ_=>true) T (ρ1:=[.im (LD T),.un]) rfl hl λt ht=>⟨_,_,rfl,rfl,rfl⟩).trans (by rw[qK λ_ _=>rfl])))).trans rfl))];rw[ni (oH (ρ1:=ρ) rfl)];rw[ni (oH (ρ1:=ρ) ((qJ tkD (λ_=>true) T rfl hl λt _=>⟨[.im (tkD t)],[.im (tkD t)],rfl,nL (nD (oi rfl (wD t)) (nD rfl rfl)) (JG t.k),rfl⟩).trans (by rw[qK λ_ _=>rfl])))];rw[ni (oH (ρ1:=ρ) (GQ (x:=1) (y:=cK .room T) (z:=5) rfl (nL (ds:=[LD T,.str Kd.room.s]) rfl (count_eq T hl .room)) rfl (by omega) (by omega)))];exact h
theorem Pi(hy:cK .you T=1)(h7:(plN T).length<=7):qC [LD T]=some true:=by
 let ρ:List Sl:=[.im (LD T),.im (.bl true)];obtain⟨_,rfl,h⟩:=JH hl h1 h5 (r:=(nz (sXp nq (aCons (c2 (dEq false) (nv qP (aCons (cV 0) (a1 (cS "you")))) (cC (.int 1))) (a1 (cS "a world has just one you"))))
 (sXp nq (aCons (c2 rX (c1 oR (cL (oN pj (a1 (cV 0))))) (cC su)) (a1 (cS "a world has at most 7 things beside rooms and you"))))))
 refine Aq (ρ:=ρ) rfl (h _ ?_);rw[ni (oH (ρ1:=ρ) (nW (ρ1:=ρ) (x:=.int (cK .you T)) (y:=.int 1) (nL (ds:=[LD T,.str Kd.you.s]) rfl (count_eq T hl .you)) rfl (by rw[hy];rfl)))];refine oH (ρ1:=ρ) (Ph (x:=(plN T).length) (y:=7) (oi (oU (nL rfl (sF T hl))) ?_) rfl (by omega));show some (D.int _)=_;rw[af]
end
theorem Bt{α:Type}{p q:α->Bool}:∀{l:List α},(∀a∈l,p a=q a)->l.all p=l.all q
 |[],_=>rfl
 |a::l,h=>by rw[c8,c8,h a aE,Bt λb hb=>h b (aG _ hb)]
def kS(x:Str):Key:=Sum.inr x
theorem NN{a b:Str}(h:kS a=kS b):a=b:=gy h
theorem Cj:∀(ks acc:List Key),acc.Nodup->(ks.foldl ddp acc).Nodup/\(ks.foldl ddp acc).length<=acc.length+ks.length/\((ks.foldl ddp acc).length=acc.length+ks.length->(acc++ks).Nodup)
 |[],acc,h=>⟨h,aA _,λ_=>by rw[bh];exact h⟩
 |k::ks,acc,h=>by
  rw[cy,aD];by_cases hn:acc.any (λz=>decide (z=k))=true
  ·rw[show ddp acc k=acc from ag hn];obtain⟨h1,h2,h3⟩:=Cj ks acc h;exact⟨h1,by omega,λz=>by omega⟩
  ·rw[show ddp acc k=acc++[k] from ai hn];have hk:k∉acc:=λz=>hn (cv.mpr ⟨k,z,aH rfl⟩);have h':(acc++[k]).Nodup:=bG.mpr ⟨h,by simp,λa ha b hb e=>by rw[aU]at hb;subst hb e;exact hk ha⟩;obtain⟨h1,h2,h3⟩:=Cj ks (acc++[k]) h';rw[aw,br]at h2 h3;exact⟨h1,by omega,λz=>by have:=h3 (by omega);rw[bD]at this;exact this⟩
theorem zB:∀l:List Str,uR (l.map D.str)=some (l.map kS)
 |[]=>rfl
 |x::l=>by show (match uO (.str x),uR (l.map D.str)with|some k,some ks=>some (k::ks)|_,_=>none)=_;rw[zB l];rfl
variable{l:List Str}
theorem Pj(h:(l.map kS).Nodup):l.Nodup:=(jY.mp h).imp λhne z=>hne (aM kS z)
theorem EG(h:¬l.Nodup)(hl:l.length<=1000):∃m:Nat,m<l.length/\pf (l.map D.str)=some (.int m):=by
 obtain⟨h1,h2,h3⟩:=Cj (l.map kS) [] gp;rw[af,b8,eL]at h2 h3;refine⟨(rL (l.map kS)).length,?_,?_⟩
 ·rcases jQ h2 with z|z
  ·exact z
  ·exact ak (Pj (h3 z)) h
 ·unfold pf;rw[zB];simp only;rw[ag (by rw[af];exact hl)]
theorem vt(hl:l.length<=1000):n8 [.lst (l.map D.str)]=some (.bl (decide l.Nodup)):=by
 refine pd (ρ:=[.im (.lst (l.map D.str))]) rfl ?_;have el:c1 oR (cV 0) [.im (.lst (l.map D.str))]=some (.int l.length,[.im (.lst (l.map D.str))]):=oi rfl (by show some (D.int _)=_;rw[af]);by_cases h:l.Nodup
 ·refine qc (nW (x:=.int l.length) (y:=.int l.length) (oi rfl (De (Bn h hl))) el ?_);rw[xE];simp[h]
 ·obtain⟨m,h1,h2⟩:=EG h hl;refine qc (nW (x:=.int m) (y:=.int l.length) (oi rfl (De h2)) el ?_);rw[xE];simp[h];omega
structure Mk where
 n:Str
 st:Int
 mo:Int
def nS:L4.D->Str
 |.str x=>x
 |_=>""
def Tk.m(t:Tk):Str:=nS t.n
def isIn(d:L4.D)(l:List Str):Bool:=match d with
 |.str x=>decide (x∈l)
 |_=>false
def sOk:L4.D->Bool
 |.str _=>true
 |.non=>true
 |.int _=>true
 |.bl _=>true
 |.tup _=>true
 |_=>false
def Av:L4.D->Bool
 |.non=>true
 |_=>false
variable{d:L4.D}
theorem wF(h:sOk d=true)(l:List Str):nX [d,.lst (l.map D.str)]=some (.bl (isIn d l)):=by
 cases d with
 |str x=>refine pd (ρ:=[.im (.str x),.im (.lst (l.map D.str))]) rfl ?_;refine qc ((pS rfl).trans (nW rfl rfl ?_));rw[yk];rfl
 |non=>rfl
 |int i=>rfl
 |bl i=>rfl
 |tup i=>rfl
 |_=>cases h
def rmN(T:List Tk):List Str:=(T.filter λt=>decide (t.k=.room)).map Tk.m
def hdN(T:List Tk):List Str:=(T.filter λt=>t.k.hd).map Tk.m
def stB(T:List Tk)(t:Tk):Bool:=match t.k with
 |.room=>Av t.s
 |.you=>isIn t.s (rmN T)
 |_=>isIn t.s (hdN T)
variable{T:List Tk}
theorem Aw(p:Tk->Bool)(hn:∀t∈T,t.n=.str t.m):(T.filter p).map Tk.n=((T.filter p).map Tk.m).map D.str:=by rw[aY];exact jG λt ht=>hn t (bF.mp ht).1
variable{t:Tk}
section
variable{T:List Tk}(hl:T.length<=900)(hn:∀t∈T,t.n=.str t.m)
include hl hn
theorem yG(hi:cV i ρ=some (LD T,ρ)):nJ 1 [] (iL (cV i)) (gN 0) (cT (c2 (dEq false) (c1 (nR oF "kind") (cV 0)) (cC (.str "room")))) (c1 (nR nO "name") (cV 0)) ρ=some ((rmN T).map D.str,ρ):=by
 have hs:iL (cV i) ρ=some (T.map tkD,ρ):=by unfold iL;rw[hi]
 refine(uE (k:=1) (cap:=[]) (g:=gN 0) (ft:=cT (c2 (dEq false) (c1 (nR oF "kind") (cV 0)) (cC (.str "room")))) (fe:=c1 (nR nO "name") (cV 0)) tkD Tk.n (λt=>decide (t.k=.room)) T hs (by omega) λt _=>
  ⟨[.im (tkD t)],[.im (tkD t)],rfl,uN (nW (oi rfl (wD t)) rfl (zA t.k .room)),λ_=>⟨_,oi rfl (sE t),rfl⟩,λ_=>rfl⟩).trans ?_
 rw[Aw _ hn];rfl
theorem Ck(hi:cV i ρ=some (LD T,ρ)):nJ 1 [] (iL (cV i)) (gN 0) (cT (qo pX "can_hold" (cV 0) n6)) (c1 (nR nO "name") (cV 0)) ρ=some ((hdN T).map D.str,ρ):=by
 have hs:iL (cV i) ρ=some (T.map tkD,ρ):=by unfold iL;rw[hi]
 refine(uE (k:=1) (cap:=[]) (g:=gN 0) (ft:=cT (qo pX "can_hold" (cV 0) n6)) (fe:=c1 (nR nO "name") (cV 0)) tkD Tk.n (λt=>t.k.hd) T hs (by omega) λt _=>
  ⟨[.im (tkD t)],[.im (tkD t)],rfl,uN (vN (xs:=[t.n,t.w,.str t.k.s,t.s]) (ys:=[]) rfl rfl rfl rfl (JF t)),λ_=>⟨_,oi rfl (sE t),rfl⟩,λ_=>rfl⟩).trans ?_
 rw[Aw _ hn];rfl
theorem Bu(hs:sOk t.s=true):vn [LD T,tkD t]=some (.bl (stB T t)):=by
 let ρ:List Sl:=[.im (LD T),.im (tkD t)];refine pd (ρ:=ρ) rfl ?_;unfold vm;have k1:cT (c2 (dEq false) (c1 (nR oF "kind") (cV 1)) (cC (.str "room"))) ρ=some (decide (t.k=.room),ρ):=uN (nW (ρ1:=ρ) (ρ2:=ρ) (oi rfl (wD t)) rfl (zA t.k .room));have k2:cT (c2 (dEq false) (c1 (nR oF "kind") (cV 1)) (cC (.str "you"))) ρ=some (decide (t.k=.you),ρ):=uN (nW (ρ1:=ρ) (ρ2:=ρ) (oi rfl (wD t)) rfl (zA t.k .you));by_cases h1:t.k=.room
 ·rw[aH h1]at k1;refine rF ((se k1).trans (qc (nW (ρ1:=ρ) (x:=t.s) (y:=.non) (oi rfl (xI t)) rfl ?_)));unfold stB;rw[h1];generalize t.s=d at hs ⊢;cases d with
  |str x=>rfl
  |non=>rfl
  |int i=>rfl
  |bl i=>rfl
  |tup i=>rfl
  |_=>cases hs
 ·rw[aQ h1]at k1;refine(ni (ρ':=ρ) ((qQ k1).trans rfl)).trans ?_;by_cases h2:t.k=.you
  ·rw[aH h2]at k2;refine rF ((se k2).trans (qc ((nL (nD (oi rfl (xI t)) (nD (oU (yG hl hn rfl)) rfl)) (wF hs (rmN T))).trans ?_)));unfold stB;rw[h2]
  ·rw[aQ h2]at k2;refine(ni (ρ':=ρ) ((qQ k2).trans rfl)).trans ?_;refine qc ((nL (nD (oi rfl (xI t)) (nD (oU (Ck hl hn rfl)) rfl)) (wF hs (hdN T))).trans ?_);unfold stB;generalize t.k=k at h1 h2 ⊢;cases k with
   |room=>exact ak rfl h1
   |you=>exact ak rfl h2
   |_=>rfl
end
def nK(T:List Tk):List Key:=T.map λt=>kS t.m
def stD(T:List Tk):L4.D:=.dic (nK T) (T.map Tk.s)
theorem Dw(h:(T.map Tk.m).Nodup):(nK T).Nodup:=by have:=wu h;rw[aY]at this;exact this
theorem Dy(h:(T.map Tk.m).Nodup)(ht:t∈T):yd (nK T) (T.map Tk.s) (kS t.m)=some t.s:=by refine Bo (Dw h) ?_;unfold nK;rw[List.zip_map'];exact aR (f:=λt=>(kS t.m,t.s)) ht
variable{ds:List L4.D}
theorem Bv{fk fv:FE}{ks:List Key}{x:Str}(h1:fv ρ=some (d,ρ))(h2:ρ[i]?=some (.dk ks ds))(h3:fk ρ=some (.str x,ρ))(hn:kS x∉ks)(hl:ks.length<1000)(he:ds.length=ks.length):
  q8 i fk fv ρ=some (.nx (ρ.set i (.dk (ks++[kS x]) (ds++[d])))):=by
 have hk:xw ks (kS x)=false:=by unfold xw;rw[fF];intro z;obtain⟨y,hy,ey⟩:=cv.mp z;exact hn (by rw[<-bK ey];exact hy)
 unfold q8;rw[h1];simp only[h2,h3];rw[show uO (.str x)=some (kS x) from rfl];simp only;rw[ag hl,ag he,hk];rfl
section
variable{α:Type}{g:FG}{i:Nat}{fk fv:FE}
theorem uJ(dd:α->L4.D)(kf:α->Str)(vf:α->L4.D)(st:List Key->List L4.D->Sl->List Sl)(A:List α)
  (hs:∀a∈A,∀(ks:List Key) (ds:List L4.D) (s:Sl),∃ρ1,g (dd a) (st ks ds s)=some ρ1/\fv ρ1=some (vf a,ρ1)/\ρ1[i]?=some (.dk ks ds)/\fk ρ1=some (.str (kf a),ρ1)/\∀ks' ds',∃s',ρ1.set i (.dk ks' ds')=st ks' ds' s'):
  ∀(l:List α) (ks:List Key) (ds:List L4.D) (s:Sl),(∀a∈l,a∈A)->(ks++l.map λa=>kS (kf a)).Nodup->ks.length+l.length<=1000->ds.length=ks.length->
   ∃s',forL g (q8 i fk fv) (l.map dd) (st ks ds s)=some (.nx (st (ks++l.map λa=>kS (kf a)) (ds++l.map vf) s'))
 |[],ks,ds,s,_,_,_,_=>⟨s,by rw[d7,d7,d7,bh,bh];rfl⟩
 |a::l,ks,ds,s,hA,nd,hl,he=>by
  obtain⟨ρ1,h1,h2,h3,h4,h5⟩:=hs a (hA a aE) ks ds s;obtain⟨s1,h6⟩:=h5 (ks++[kS (kf a)]) (ds++[vf a]);rw[aD]at hl;have nd':((ks++[kS (kf a)])++l.map λa=>kS (kf a)).Nodup:=by rw[bD];exact nd
  have hn:kS (kf a)∉ks:=λz=>by rw[bG]at nd;exact nd.2.2 _ z _ (by rw[aF];exact aE) rfl
  obtain⟨s',h7⟩:=uJ dd kf vf st A hs l (ks++[kS (kf a)]) (ds++[vf a]) s1 (λb hb=>hA b (aG _ hb)) nd' (by rw[aw,br];omega) (by rw[aw,aw,he,br,br]);refine⟨s',?_⟩;rw[aF];unfold forL;rw[h1];simp only[Bv h2 h3 h4 hn (by omega) he,h6];rw[h7,aF,aF,bD,bD];rfl
end
def cB:FS:=nz (sIf (cT (c2 xu (cV 2) (cC D.non))) (oK (cC (.bl true))) oY) (ot 2 (c2 wQ (cV 0) (cV 2)))
section
variable{T:List Tk}(hl:T.length<=900)(nd:(T.map Tk.m).Nodup)
include hl nd
theorem zC(ht:t∈T):(∀ρ,forL (gN 3) cB (va 0 T.length) [.im (stD T),.im (.str t.m),.im t.s,.un]=some (.rt (.bl true) ρ)->oE [stD T,.str t.m]=some (.bl true))/\
  (∀(d:L4.D) (b:Bool) (s:Sl),xu d .non=some (.bl b)->forL (gN 3) cB (va 0 T.length) [.im (stD T),.im (.str t.m),.im t.s,.un]=some (.nx [.im (stD T),.im (.str t.m),.im d,s])->oE [stD T,.str t.m]=some (.bl b)):=by
 have e0:ot 2 (c2 wQ (cV 0) (cV 1)) [.im (stD T),.im (.str t.m),.un,.un]=some (.nx [.im (stD T),.im (.str t.m),.im t.s,.un]):=(ou (nW rfl rfl (Dy nd ht))).trans rfl;have e1:iR1 (c1 oR (cV 0)) [.im (stD T),.im (.str t.m),.im t.s,.un]=some (va 0 T.length,[.im (stD T),.im (.str t.m),.im t.s,.un]):=by unfold iR1;rw[show c1 oR (cV 0) [.im (stD T),.im (.str t.m),.im t.s,.un]=some (.int T.length,[.im (stD T),.im (.str t.m),.im t.s,.un]) from oi rfl (by show some (D.int _)=_;unfold nK;rw[af])];simp only;rw[ag (by omega),il]
 constructor
 ·intro ρ q;refine pd (ρ:=ρ) rfl ?_;exact(ni e0).trans (rF ((qZ e1).trans q))
 ·intro d b s hd q;refine pd (ρ:=[.im (stD T),.im (.str t.m),.im d,s]) rfl ?_;exact(ni e0).trans ((ni ((qZ e1).trans q)).trans (qc (nW rfl rfl hd)))
theorem Pk{a:Sl}{u:Tk}{s:Sl}(hu:u∈T):cB [.im (stD T),a,.im (.str u.m),s]=some (.nx [.im (stD T),a,.im u.s,s]):=
 (ni (ρ':=[.im (stD T),a,.im (.str u.m),s]) rfl).trans ((ou (nW rfl rfl (Dy nd hu))).trans rfl)
theorem GR(G:Tk->Prop)(r:Str->Nat)(h:∀u∈T,G u->r u.m<T.length/\(u.s=.non\/∃v∈T,G v/\u.s=.str v.m/\r v.m<r u.m))(ht:t∈T)(hg:G t):oE [stD T,.str t.m]=some (.bl true):=by
 have loop:∀(m:Nat) (l:List L4.D),l.length=m->∀(u:Tk) (s:Sl),u∈T->G u->r u.m<=m->(∃ρ,forL (gN 3) cB l [.im (stD T),.im (.str t.m),.im u.s,s]=some (.rt (.bl true) ρ))\/(∃s',forL (gN 3) cB l [.im (stD T),.im (.str t.m),.im u.s,s]=some (.nx [.im (stD T),.im (.str t.m),.im .non,s'])):=by
  intro m
  induction m with
  |zero=>
   intro l hm u s hu hg hr;cases l with
   |cons d l=>cases hm
   |nil=>
    rcases(h u hu hg).2 with e|⟨v,hv,gv,e,lt⟩
    ·rw[e];exact .inr ⟨s,rfl⟩
    ·omega
  |succ m ih=>
   intro l hm u s hu hg hr;cases l with
   |nil=>cases hm
   |cons d l=>
    rcases(h u hu hg).2 with e|⟨v,hv,gv,e,lt⟩
    ·rw[e];refine .inl ⟨[.im (stD T),.im (.str t.m),.im .non,.im d],?_⟩;unfold forL;rw[show gN 3 d [.im (stD T),.im (.str t.m),.im .non,s]=some [.im (stD T),.im (.str t.m),.im .non,.im d] from rfl];rfl
    ·rw[e];unfold forL;rw[show gN 3 d [.im (stD T),.im (.str t.m),.im (.str v.m),s]=some [.im (stD T),.im (.str t.m),.im (.str v.m),.im d] from rfl];simp only[Pk hl nd hv];exact ih l (by simpa using hm) v (.im d) hv gv (by omega)
 rcases loop T.length (va 0 T.length) (by unfold va;simp) t .un ht hg (by have:=(h t ht hg).1;omega)with ⟨ρ,q⟩|⟨s',q⟩
 ·exact(zC hl nd ht).1 ρ q
 ·exact(zC hl nd ht).2 .non true s' rfl q
end
section
variable{T:List Tk}(hl:T.length<=900)(hn:∀t∈T,t.n=.str t.m)(hs:∀t∈T,sOk t.s=true)
include hl hn hs
theorem NO(nd:(T.map Tk.m).Nodup)(h:T.all (stB T)=true)(c:Tk->Bool)(hc:∀t∈T,oE [stD T,.str t.m]=some (.bl (c t))):pY [LD T]=some (T.all c):=by
 obtain⟨s',e1⟩:=uJ (g:=gN 2) (i:=1) (fk:=c1 (nR nO "name") (cV 2)) (fv:=c1 (nR p9 "start") (cV 2)) tkD Tk.m Tk.s (λks ds s=>[.im (LD T),.dk ks ds,s]) T
  (λt ht ks ds s=>⟨[.im (LD T),.dk ks ds,.im (tkD t)],rfl,oi rfl (xI t),rfl,oi rfl ((sE t).trans (by rw[hn t ht])),λks' ds'=>⟨_,rfl⟩⟩) T [] [] .un (λ_ h=>h) (by rw[b9];exact Dw nd) (by simp;omega) rfl
 have src:iD (cFz 1) [.im (LD T),.dk ([]++T.map λa=>kS a.m) ([]++T.map Tk.s),s']=some ((T.map λt=>D.str t.m),[.im (LD T),.im (stD T),s']):=by rw[b9,b9];unfold iD;rw[show cFz 1 [.im (LD T),.dk (T.map λa=>kS a.m) (T.map Tk.s),s']=some (stD T,[.im (LD T),.im (stD T),s']) from rfl];show (if (nK T).length=(T.map Tk.s).length then some ((nK T).map L9,_)else none)=_;unfold nK;rw[ag (by rw[af,af]),aY];rfl
 have ec:c1 pL (cL (nJ 1 [1] (iD (cFz 1)) (gN 0) oh (nv oE (aCons (cV 1) (a1 (cV 0)))))) [.im (LD T),.dk ([]++T.map λa=>kS a.m) ([]++T.map Tk.s),s']=some (.bl (T.all c),[.im (LD T),.im (stD T),s']):=
  qJ (λt:Tk=>D.str t.m) c T src (by omega) λt ht=>⟨[.im (.str t.m),.im (stD T)],[.im (.str t.m),.im (stD T)],rfl,nL rfl (hc t ht),rfl⟩
 have hd:∀{o:Out},sXp nq (aCons (c1 pL (cL (nJ 1 [1] (iD (cFz 1)) (gN 0) oh (nv oE (aCons (cV 1) (a1 (cV 0))))))) (a1 (cS "a thing starts within itself"))) [.im (LD T),.dk ([]++T.map λa=>kS a.m) ([]++T.map Tk.s),s']=some o->qE [.im (LD T),.un,.un]=some o:=λ{o} q=>by unfold qE;refine(ni (oH (ρ1:=[.im (LD T),.un,.un]) ((qJ tkD (stB T) T rfl (by omega) λt ht=>⟨[.im (tkD t),.im (LD T)],[.im (tkD t),.im (LD T)],rfl,nL rfl (Bu hl hn (hs t ht)),rfl⟩).trans (by rw[h])))).trans ?_;refine(ni (ρ':=[.im (LD T),.dk [] [],.un]) rfl).trans ?_;exact(ni (qa ((qZ rfl).trans e1))).trans q
 cases hb:T.all c with
 |true=>rw[hb]at ec;exact Aq rfl (hd (oH ec))
 |false=>rw[hb]at ec;exact uD rfl (hd (sT ec))
end
def taB(h:Tk->Tk->Bool)(P:List Tk)(t:Tk):Bool:=!(P.filter λu=>!decide (u.m=t.m)).any λu=>h u t
section
variable{T:List Tk}(hl:T.length<=900)
include hl
theorem JI{P:List Tk}(hP:P.length<=900)(hn:∀t∈P,t.n=.str t.m)(h:Tk->Tk->Bool)(ht:t∈P)(hh:∀u∈P,qt [u.w,t.w]=some (.bl (h u t))):pH [LD P,tkD t]=some (.bl (taB h P t)):=by
 let O:=P.filter λu=>!decide (u.m=t.m);let ρ:List Sl:=[.im (LD P),.im (tkD t),.im (LD O)];have hO:O.length<=900:=bw (fq _ _) hP;refine pd (ρ:=ρ) rfl ?_;unfold q9;refine(ni (ρ':=ρ) ((ou (oU (uE tkD tkD (λu=>!decide (u.m=t.m)) P (ρ1:=[.im (LD P),.im (tkD t),.un]) rfl (by omega) λu hu=>⟨[.im (tkD u),.im (tkD t)],[.im (tkD u),.im (tkD t)],rfl,uN (nW (x:=.str u.m) (y:=.str t.m) (oi rfl ((sE u).trans (by rw[hn u hu]))) (oi rfl ((sE t).trans (by rw[hn t ht]))) (Di true u.m t.m)),λ_=>⟨_,rfl,rfl⟩,λ_=>rfl⟩))).trans rfl)).trans ?_;have e:c1 ye (cL (nJ 1 [1] (iL (cV 2)) (gN 0) oh (nv qt (aCons (c1 (nR oV "words") (cV 0)) (aCons (c1 (nR oV "words") (cV 1)) n6))))) ρ=some (.bl (O.any λu=>h u t),ρ):=
  Du tkD (λu=>h u t) O rfl (by omega) λu hu=>⟨[.im (tkD u),.im (tkD t)],[.im (tkD u),.im (tkD t)],rfl,nL (nD (oi rfl (xH u)) (nD (oi rfl (xH t)) rfl)) (hh u (bF.mp hu).1),rfl⟩
 refine qc ?_;unfold yR;rw[e];rfl
theorem NP(p:Tk->Bool)(hp:∀t∈T,qr [t.w]=some (.bl (p t))):(T.all p=false->oe [LD T]=some false)/\
  (T.all p=true->(∀t∈T,t.n=.str t.m)->∀h:Tk->Tk->Bool,(∀t∈plN T,∀u∈plN T,qt [u.w,t.w]=some (.bl (h u t)))->oe [LD T]=some ((plN T).all (taB h (plN T)))):=by
 let ρ0:List Sl:=[.im (LD T),.un];have ea:c1 pL (cL (nJ 1 [] (iL (cV 0)) (gN 0) oh (nv qr (a1 (c1 (nR oV "words") (cV 0)))))) ρ0=some (.bl (T.all p),ρ0):=qJ tkD p T rfl (by omega) λt ht=>⟨[.im (tkD t)],[.im (tkD t)],rfl,nL (nD (oi rfl (xH t)) rfl) (hp t ht),rfl⟩;constructor
 ·intro h;rw[h]at ea;refine uD (ρ:=ρ0) rfl ?_;unfold oq;exact uC (sT ea)
 ·intro h hn hh hq;rw[h]at ea;let P:=plN T;have hP:P.length<=900:=bw (fq _ _) hl;have hnP:∀t∈P,t.n=.str t.m:=λt ht=>hn t (bF.mp ht).1;let ρ:List Sl:=[.im (LD T),.im (LD P)];have eb:c1 pL (cL (nJ 1 [1] (iL (cV 1)) (gN 0) oh (nv pH (aCons (cV 1) (a1 (cV 0)))))) ρ=some (.bl (P.all (taB hh P)),ρ):=qJ tkD (taB hh P) P rfl (by omega) λt ht=>⟨[.im (tkD t),.im (LD P)],[.im (tkD t),.im (LD P)],rfl,nL rfl (JI hl hP hnP hh ht λu hu=>hq t ht u hu),rfl⟩;have hd:∀{o:Out},sXp nq (aCons (c1 pL (cL (nJ 1 [1] (iL (cV 1)) (gN 0) oh (nv pH (aCons (cV 1) (a1 (cV 0))))))) (a1 (cS "one thing has all words of another"))) ρ=some o->oq ρ0=some o:=λ{o} q=>by unfold oq;refine(ni (oH ea)).trans ?_;exact(ni (ρ':=ρ) (qa ((ou (oU (nL rfl (sF T (by omega))))).trans rfl))).trans q
  cases hb:P.all (taB hh P)with
  |true=>rw[hb]at eb;exact Aq rfl (hd (oH eb))
  |false=>rw[hb]at eb;exact uD rfl (hd (sT eb))
end
def vb(n f:Str)(j:L4.D):L4.D:=.obj 2 ["name", "others", "form", "joining"] [.str n,.tup [],.str f,j]
def v9:List L4.D:=[vb "take" "one" .non,vb "drop" "one" .non,vb "open" "one" .non,vb "shut" "one" .non,vb "light" "one" .non,vb "douse" "one" .non,vb "put" "two" (.str "in"),vb "go" "way" .non,vb "wait" "alone" .non]
theorem Kn:qG []=some v9:=by kernel_rfl
abbrev pA(d M K W:L4.D):List L4.D:=[d,M,K,W,.lst [],.lst v9]
structure Rt(T:List Tk):Prop where
 l:T.length<=20
 s:∀t∈T,t.n=.str t.m
 c1:qC [LD T]=some true
 c4:pY [LD T]=some true
 c5:oe [LD T]=some true
abbrev rrD(T:List Tk):L4.D:=.lst ((rmN T).map D.str)
section
variable{T:List Tk}(r:Rt T){M K W:L4.D}
include r
theorem cp1(h:pJ [M]=some false):nZ (pA (LD T) M K W)=some false:=by refine uD (ρ:=stE 7 (pA (LD T) M K W)) rfl ?_;unfold pK;rw[ni (vZ (ds:=[LD T]) (ρ1:=stE 7 (pA (LD T) M K W)) rfl r.c1)];exact uC (GO (ds:=[M]) rfl h)
variable(h2:pJ [M]=some true)
include h2
theorem cp2(h:o7 [LD T,M]=some false):nZ (pA (LD T) M K W)=some false:=by refine uD (ρ:=stE 7 (pA (LD T) M K W)) rfl ?_;unfold pK;rw[ni (vZ (ds:=[LD T]) (ρ1:=stE 7 (pA (LD T) M K W)) rfl r.c1),ni (vZ (ds:=[M]) (ρ1:=stE 7 (pA (LD T) M K W)) rfl h2)];exact uC (GO (ds:=[LD T,M]) rfl h)
variable(h3:o7 [LD T,M]=some true)
include h3
theorem Ax{o:Out}(h:(nz (sXp oO (aCons (cV 2) (a1 (cV 6))))
 (nz (sXp px (aCons (cV 3) (aCons (cV 6) (a1 (cL (oN pq (aCons (cV 0) (a1 (cV 1)))))))))
 (nz (sXp sv (a1 (cV 4)))
 (sXp oG (aCons (cV 0) (aCons (cV 3) (a1 (cL (o4 (cV 4) (cV 5)))))))))) [.im (LD T),.im M,.im K,.im W,.im (.lst []),.im (.lst v9),.im (rrD T)]=some o):pK (stE 7 (pA (LD T) M K W))=some o:=by
 have l:=r.l;let ρ0:List Sl:=stE 7 (pA (LD T) M K W);let ρ:List Sl:=[.im (LD T),.im M,.im K,.im W,.im (.lst []),.im (.lst v9),.im (rrD T)];unfold pK;rw[ni (vZ (ds:=[LD T]) (ρ1:=ρ0) rfl r.c1),ni (vZ (ds:=[M]) (ρ1:=ρ0) rfl h2),ni (vZ (ds:=[LD T,M]) (ρ1:=ρ0) rfl h3),ni (vZ (ds:=[LD T]) (ρ1:=ρ0) rfl r.c4),ni (vZ (ds:=[LD T]) (ρ1:=ρ0) rfl r.c5)];exact(ni (ρ':=ρ) (qa ((ou (oU (yG (T:=T) (by omega) r.s rfl))).trans rfl))).trans h
theorem cp3(h:oO [K,rrD T]=some false):nZ (pA (LD T) M K W)=some false:=
 uD rfl (Ax r h2 h3 (uC (GO (ds:=[K,rrD T]) rfl h)))
variable(h4:oO [K,rrD T]=some true){l:List L4.D}(hm:pq [LD T,M]=some l)
include h4 hm
theorem Ko:(aCons (cV 3) (aCons (cV 6) (a1 (cL (oN pq (aCons (cV 0) (a1 (cV 1)))))))) [.im (LD T),.im M,.im K,.im W,.im (.lst []),.im (.lst v9),.im (rrD T)]=some ([W,rrD T,.lst l],[.im (LD T),.im M,.im K,.im W,.im (.lst []),.im (.lst v9),.im (rrD T)]):=
 nD rfl (nD rfl (nD (oU (nL (g:=pq) (ds:=[LD T,M]) rfl hm)) rfl))
theorem cp4(h:px [W,rrD T,.lst l]=some false):nZ (pA (LD T) M K W)=some false:=
 uD rfl (Ax r h2 h3 ((ni (vZ (ds:=[K,rrD T]) rfl h4)).trans (uC (GO (Ko r h2 h3 h4 hm) h))))
theorem cp5(h:px [W,rrD T,.lst l]=some true)(hv:oG [LD T,W,.lst v9]=some true):nZ (pA (LD T) M K W)=some true:=
 Aq rfl (Ax r h2 h3 ((ni (vZ (ds:=[K,rrD T]) rfl h4)).trans ((ni (vZ (Ko r h2 h3 h4 hm) h)).trans ((ni (vZ (ds:=[.lst []]) rfl (by kernel_rfl))).trans (vZ (ds:=[LD T,W,.lst v9]) rfl hv)))))
end
variable{M:L4.D}
theorem Qe{K W:L4.D}(h:nZ (pA d M K W)=some false):pC [d,M,K,W,.lst [],.lst []]=some none:=by
 unfold pC fnXI;rw[ag (show [d,M,K,W,.lst [],.lst []].length=6 from rfl)];have e:pB (stI 14 8 [d,M,K,W,.lst [],.lst []])=some (.bk (stI 14 8 [d,M,K,W,.lst [],.lst []])):=by unfold pB;exact uC (GO (ds:=pA d M K W) (nD rfl (nD rfl (nD rfl (nD rfl (nD rfl (nD (oU (nL (ds:=[]) rfl Kn)) rfl)))))) h)
 rw[e]
theorem GT{K W:L4.D}:(aCons (cV 0) (aCons (cV 1) (aCons (cV 2) (aCons (cV 3) (aCons (cL (nP n6)) (a1 (cL (nP n6)))))))) [.im d,.im M,.im K,.im W]=some ([d,M,K,W,.lst [],.lst []],[.im d,.im M,.im K,.im W]):=by kernel_rfl
theorem refused{K W:L4.D}(h:nZ (pA d M K W)=some false):oj [d,M,K,W]=some (.bl true):=by refine pd (ρ:=[.im d,.im M,.im K,.im W]) rfl ?_;unfold qI;refine rF ?_;unfold sTry;rw[show (aCons (cV 0) (aCons (cV 1) (aCons (cV 2) (aCons (cV 3) (aCons (cL (nP n6)) (a1 (cL (nP n6)))))))) (stE 4 [d,M,K,W])=_ from GT];simp only[Qe h];rfl
theorem NQ{K W:L4.D}{q:List Str×List L4.D}(h:pC [d,M,K,W,.lst [],.lst []]=some (some q)):oj [d,M,K,W]=some (.bl false):=by refine pd (ρ:=[.im d,.im M,.im K,.im W]) rfl ?_;unfold qI;refine(ni (ρ':=[.im d,.im M,.im K,.im W]) ?_).trans rfl;unfold sTry;rw[show (aCons (cV 0) (aCons (cV 1) (aCons (cV 2) (aCons (cV 3) (aCons (cL (nP n6)) (a1 (cL (nP n6)))))))) (stE 4 [d,M,K,W])=_ from GT];simp only[h]
structure Th where
 n:Str
 w:List Str
 k:Kd
 s:Option Str
def oS:Option Str->L4.D
 |none=>.non
 |some x=>.str x
def Th.tk(t:Th):Tk:=⟨.str t.n,.tup (t.w.map D.str),t.k,oS t.s⟩
def thD(t:Th):L4.D:=tkD t.tk
abbrev TD(T:List Th):L4.D:=.lst (T.map thD)
def Th.nw(t:Th):Str×List Str:=(t.n,t.w)
theorem Pl(T:List Th):TD T=LD (T.map Th.tk):=by show D.lst _=D.lst _;rw[aY];rfl
def rmL:List Str:=["hall", "x", "cellar", "loft", "porch"]
def plL:List (Str×List Str):=[("chest", ["old", "chest"]),("lamp", ["lamp", "red"]),("stone", ["red", "stone"]),("key", ["key"])]
def Bw(l:List Th)(r:Th):Prop:=(r.k=.room/\r.s=none)\/(r.k=.you/\∃u∈l,r.s=some u.n/\u.k=.room)\/(r.k.pl=true/\∃u∈l,r.s=some u.n/\u.k.hd=true)
inductive Ord:List Th->Prop
 |nil:Ord []
 |snoc {l:List Th} {r:Th} (h:Ord l) (h':Bw l r):Ord (l++[r])
theorem Bw.mono{l l':List Th}{r:Th}(h:Bw l r)(hs:∀u∈l,u∈l'):Bw l' r:=by
 rcases h with h|⟨h1,u,h2,h3⟩|⟨h1,u,h2,h3⟩
 ·exact .inl h
 ·exact .inr (.inl ⟨h1,u,hs u h2,h3⟩)
 ·exact .inr (.inr ⟨h1,u,hs u h2,h3⟩)
theorem Ord.all{l:List Th}(h:Ord l):∀r∈l,Bw l r:=by
 induction h with
 |nil=>exact λr hr=>(dy hr).elim
 |snoc h h' ih=>
  intro r hr;rcases aN.mp hr with hr|hr
  ·exact(ih r hr).mono λu hu=>bb _ hu
  ·rw[aU]at hr;subst hr;exact h'.mono λu hu=>bb _ hu
theorem Bw.start{l:List Th}{r:Th}(h:Bw l r){p:Str}(hp:r.s=some p):∃u∈l,u.n=p:=by
 rcases h with ⟨_,h⟩|⟨_,u,h2,h3,_⟩|⟨_,u,h2,h3,_⟩
 ·rw[h]at hp;cases hp
 ·rw[h3]at hp;cases hp;exact⟨u,h2,rfl⟩
 ·rw[h3]at hp;cases hp;exact⟨u,h2,rfl⟩
theorem Ord.rank{l:List Th}(h:Ord l):(l.map Th.n).Nodup->∃rk:Str->Nat,∀t∈l,rk t.n<l.length/\∀p,t.s=some p->rk p<rk t.n/\∃u∈l,u.n=p:=by
 induction h with
 |nil=>exact λ_=>⟨λ_=>0,λt ht=>(dy ht).elim⟩
 |@snoc l r h h' ih=>
  intro nd;rw[bg,bG]at nd;obtain⟨rk,hk⟩:=ih nd.1;have ne:∀u∈l,u.n≠r.n:=λu hu z=>nd.2.2 _ (aR hu) _ (by simp) z;refine⟨λx=>if x=r.n then l.length else rk x,λt ht=>?_⟩;rw[aw,br];dsimp only;rcases aN.mp ht with ht|ht
  ·obtain⟨h1,h2⟩:=hk t ht;rw[ai (ne t ht)];refine⟨by omega,λp hp=>?_⟩;obtain⟨h3,u,hu,rfl⟩:=h2 p hp;rw[ai (ne u hu)];exact⟨h3,u,bb _ hu,rfl⟩
  ·rw[aU]at ht;subst ht;rw[ag rfl];refine⟨by omega,λp hp=>?_⟩;obtain⟨u,hu,rfl⟩:=h'.start hp;rw[ai (ne u hu)];exact⟨(hk u hu).1,u,bb _ hu,rfl⟩
theorem Ay(k:Nat)(h:k<=ds.length):cutD ds none (some (k:Int))=ds.take k:=by unfold cutD;rw[HT.AN,HT.CD,ko h,List.drop_zero,Nat.sub_zero]
theorem NR(k:Nat)(h:k<=ds.length):cutD ds (some (k:Int)) none=ds.drop k:=by unfold cutD;rw[HT.AN,HT.CD,ko h,fZ (by rw[cu];omega)]
theorem Pm(n:Nat):va 0 n=(aV n).map λk:Nat=>D.int (k:Nat):=by unfold va;simp
theorem GU{P:Kd->Prop}(h1:P .room)(h2:P .you)(h3:P .plain)(h4:P .fixed)(h5:P .box)(h6:P .lamp):∀k,P k:=λk=>by cases k<;>assumption
variable{ρ1:List Sl}
theorem Pn{n:Nat}(h:e ρ=some (.int (n:Nat),ρ1))(hn:n<=100):iR1 e ρ=some ((aV n).map λk:Nat=>D.int (k:Nat),ρ1):=by unfold iR1;rw[h];dsimp only;rw[ag (by omega),il,Pm]
variable{ρ2 ρ3:List Sl}
theorem yH{lo hi:FO}{l u:Option Int}(h1:e ρ=some (.lst ds,ρ1))(h2:lo ρ1=some (l,ρ2))(h3:hi ρ2=some (u,ρ3)):vc e lo hi ρ=some (cutD ds l u,ρ3):=by unfold vc;rw[h1];simp only[h2,h3]
theorem Cm{i:Int}(h:e ρ=some (.int i,ρ1)):oAt e ρ=some (some i,ρ1):=by unfold oAt;rw[h]
theorem ixs{j:Nat}{L:List L4.D}(h:rY es)(h0:L≠[])(hl:L.length<=1000)(hi:oM ρ i=some es)(hj:oM ρ j=some L)(hb:cV j (ρ.map Sl.bor)=some (.lst L,ρ.map Sl.bor))(hne:∀es',oM (putAt ρ i es') j=some L):
  ∃d∈L,∃es',rY es'/\wg j (p7 nF i (a1 (tG (c1 oR (cV j))))) ρ=some (d,putAt ρ i es'):=by
 have hp:0<L.length:=jF.mpr h0;obtain⟨r,es',h4,h2,h3,h1⟩:=Bs h (b:=L.length) (by omega) (by omega);obtain⟨m,rfl⟩:=cI h2;have hm:m<L.length:=by omega
 refine⟨L[m],dR hm,es',h1,?_⟩;have e1:tG (c1 oR (cV j)) ρ=some (.int L.length,ρ):=Ac (oi hb rfl) rfl;have e2:p7 nF i (a1 (tG (c1 oR (cV j)))) ρ=some (.int m,putAt ρ i es'):=B3 hi (nD e1 rfl) hi h4;unfold wg;rw[hj];simp only[e2,hne es'];rw[show atI L (m:Int)=some L[m] from sY (aP hm)]
variable{f:FE}
theorem NS{d0:List L4.D}{j:Int}(h0:oM ρ i=some d0)(h1:f ρ=some (.int j,ρ1))(h2:oM ρ1 i=some ds)(h3:atI ds j=some d):wg i f ρ=some (d,ρ1):=by unfold wg;rw[h0];simp only[h1,h2,h3]
def By(i:Nat):Str×List Str:=plL.getD i ("key", ["key"])
def plD(q:Str×List Str):L4.D:=.tup [.str q.1,.tup (q.2.map D.str)]
def kL:List Kd:=[.plain,.box,.lamp,.fixed]
def tB:FS:=(nz (xW (c2 dIx (cV 4) (c2 qe (c2 qd (cV 6) (cV 5)) (cC (.int 4)))) (gT (qb (gN 7) (qb (gN 8) wN)) 2))
 (nz (ot 9 (c2 dIx (cL (nP (aCons (cS "plain") (aCons (cS "box") (aCons (cS "lamp") (a1 (cS "fixed"))))))) (p7 nF 0 (a1 (cC (.int 4))))))
 (nz (pQ (uM 2 (nU 0 (λds=>oZ (ds++[])) (aCons (cV 7) (aCons (cV 8) (aCons (cV 9) (a1 (wg 3 (p7 nF 0 (a1 (tG (c1 oR (cV 3)))))))))))))
 (sIf (cT (c2 (dEq false) (cV 9) (cS "box"))) (pQ (uM 3 (cV 7))) oY))))
theorem Kp(h:i<4):By i∈plL/\atI (plL.map plD) (i:Int)=some (plD (By i)):=by
 have e:plL[i]?=some (By i):=by unfold By;rw[fW,aP (show i<plL.length from h)];rfl
 exact⟨bz e,sY (by rw[aZ,e];rfl)⟩
def cc:List Th:=[⟨"case", ["case"],.box,some "hall"⟩,⟨"candle", ["candle"],.lamp,some "me"⟩]
theorem xn(a:Sl)(tn:Nat)(htn:tn<4):∀(l:List Nat) (es:List L4.D) (P:List Th) (Hs:List Str) (s6 s7 s8 s9:Sl),rY es->Hs≠[]->(∀x∈Hs,∃u∈P,u.n=x/\u.k.hd=true)->Ord P->P.length+l.length<=900->Hs.length+l.length<=900->
  ∃(es':List L4.D) (P':List Th) (Hs':List Str) (t6 t7 t8 t9:Sl),rY es'/\Ord (P++P')/\P'.map Th.nw=l.map (λk=>By ((k+tn) % 4))/\(∀t∈P',t.k.pl=true)/\
   forL (gN 6) tB (l.map λk:Nat=>D.int (k:Nat)) [.pm es,a,.ls (P.map thD),.ls (Hs.map D.str),.im (.lst (plL.map plD)),.im (.int (tn:Nat)),s6,s7,s8,s9]=some (.nx [.pm es',a,.ls ((P++P').map thD),.ls (Hs'.map D.str),.im (.lst (plL.map plD)),.im (.int (tn:Nat)),t6,t7,t8,t9])
 |[],es,P,Hs,s6,s7,s8,s9,h,_,_,ho,_,_=>⟨es,[],Hs,s6,s7,s8,s9,h,by rw[bh];exact ho,rfl,λr hr=>(dy hr).elim,by rw[bh];rfl⟩
 |k::l,es,P,Hs,s6,s7,s8,s9,h,h0,hH,ho,hl,hl'=>by
  rw[aD]at hl hl';let Q:Sl:=.im (.lst (plL.map plD));let N:Sl:=.im (.int (tn:Nat));let K:Sl:=.im (.int (k:Nat));let i:Nat:=(k+tn) % 4;have hi:i<4:=dG _ (by decide);obtain⟨pm,ea⟩:=Kp hi;let q:=By i;let X:Sl:=.im (.str q.1);let Y:Sl:=.im (.tup (q.2.map D.str));obtain⟨d,e1,x1,p0,p1,h1⟩:=dgx (i:=0) (b:=4) (a:=cC (.int 4)) (λes=>[.pm es,a,.ls (P.map thD),.ls (Hs.map D.str),Q,N,K,X,Y,s9]) (λ_=>rfl) (λ_ _=>rfl) rfl h (by decide) (by decide);obtain⟨j,rfl⟩:=cI p0;have hj:j<kL.length:=by show j<4;omega
  let kd:Kd:=kL[j];have hpl:kd.pl=true:=(show ∀k∈kL,Kd.pl k=true by decide) _ (dR hj);have ek:dIx (.lst (kL.map λk=>D.str k.s)) (.int (j:Nat))=some (.str kd.s):=sY (by rw[aZ,aP hj];rfl);let Z:Sl:=.im (.str kd.s);let ρ1:List Sl:=[.pm e1,a,.ls (P.map thD),.ls (Hs.map D.str),Q,N,K,X,Y,Z];obtain⟨dd,hdd,e2,h2,x2⟩:=ixs (ρ:=ρ1) (i:=0) (j:=3) h1 (by simpa using h0) (by rw[af];omega) rfl rfl rfl (λ_=>rfl);obtain⟨p,hp,rfl⟩:=az.mp hdd;let t:Th:=⟨q.1,q.2,kd,some p⟩;obtain⟨u,hu,hun,huk⟩:=hH p hp;have ok:Bw P t:=.inr (.inr ⟨hpl,u,hu,by rw[hun],huk⟩);let Hs1:List Str:=if kd=.box then Hs++[q.1]else Hs
  have xb:tB [.pm es,a,.ls (P.map thD),.ls (Hs.map D.str),Q,N,K,s7,s8,s9]=some (.nx [.pm e2,a,.ls ((P++[t]).map thD),.ls (Hs1.map D.str),Q,N,K,X,Y,Z]):=by
   unfold tB;refine(ni (ρ':=[.pm es,a,.ls (P.map thD),.ls (Hs.map D.str),Q,N,K,X,Y,s9]) ?_).trans ?_
   ·have em:c2 qe (c2 qd (cV 6) (cV 5)) (cC (.int 4)) [.pm es,a,.ls (P.map thD),.ls (Hs.map D.str),Q,N,K,s7,s8,s9]=some (.int (i:Nat),[.pm es,a,.ls (P.map thD),.ls (Hs.map D.str),Q,N,K,s7,s8,s9]):=(nW (x:=.int ((k:Int)+(tn:Int))) rfl rfl (sf (by decide))).trans (by
     rw[show ((k:Int)+(tn:Int)) % 4=((i:Nat):Int) by show _=(((k+tn) % 4:Nat):Int);omega])
    unfold xW;rw[nW (x:=.lst (plL.map plD)) (ρ1:=[.pm es,a,.ls (P.map thD),.ls (Hs.map D.str),Q,N,K,s7,s8,s9]) rfl em ea];rfl
   refine(ni (ρ':=ρ1) ((ou (nW (x:=.lst (kL.map λk=>D.str k.s)) rfl x1 ek)).trans rfl)).trans ?_;let ρ3:List Sl:=[.pm e2,a,.ls ((P++[t]).map thD),.ls (Hs.map D.str),Q,N,K,X,Y,Z];refine(ni (ρ':=ρ3) ((uI (Ad (es0:=P.map thD) (es:=P.map thD) (ρ1:=[.pm e2,a,.ls (P.map thD),.ls (Hs.map D.str),Q,N,K,X,Y,Z]) (d:=thD t) rfl (Aj (ds:=[.str q.1,.tup (q.2.map D.str),.str kd.s,.str p]) (nD rfl (nD rfl (nD rfl (nD x2 rfl)))) rfl) rfl (by rw[af];omega))).trans ?_)).trans ?_
   ·show some (Out.nx [.pm e2,a,.ls (P.map thD++[thD t]),.ls (Hs.map D.str),Q,N,K,X,Y,Z])=_;rw[show P.map thD++[thD t]=(P++[t]).map thD by rw[bg];rfl]
   ·have et:cT (c2 (dEq false) (cV 9) (cS "box")) ρ3=some (decide (kd=.box),ρ3):=uN (nW rfl rfl (zA kd .box));by_cases hb:kd=.box
    ·rw[aH hb]at et;refine(se et).trans ((uI (Ad (es0:=Hs.map D.str) (es:=Hs.map D.str) (ρ1:=ρ3) (d:=.str q.1) rfl rfl rfl (by rw[af];omega))).trans ?_);show some (Out.nx [.pm e2,a,.ls ((P++[t]).map thD),.ls (Hs.map D.str++[.str q.1]),Q,N,K,X,Y,Z])=_;rw[show Hs1.map D.str=Hs.map D.str++[.str q.1] by rw[show Hs1=Hs++[q.1] from ag hb,bg];rfl]
    ·rw[aQ hb]at et;refine(qQ et).trans ?_;rw[show Hs1=Hs from ai hb];rfl
  have hH1:∀y∈Hs1,∃u∈P++[t],u.n=y/\u.k.hd=true:=λy hy=>by
   have old:y∈Hs->∃u∈P++[t],u.n=y/\u.k.hd=true:=λhy=>by obtain⟨v,hv,h⟩:=hH y hy;exact⟨v,bb _ hv,h⟩
   by_cases hb:kd=.box
   ·rw[show Hs1=Hs++[q.1] from ag hb]at hy;rcases aN.mp hy with hy|hy
    ·exact old hy
    ·rw[aU]at hy;refine⟨t,by simp,hy.symm,?_⟩;show kd.hd=true;rw[hb];rfl
   ·rw[show Hs1=Hs from ai hb]at hy;exact old hy
  have h01:Hs1≠[]:=by
   by_cases hb:kd=.box
   ·rw[show Hs1=Hs++[q.1] from ag hb];simp
   ·rw[show Hs1=Hs from ai hb];exact h0
  have hl1:Hs1.length<=Hs.length+1:=by
   by_cases hb:kd=.box
   ·rw[show Hs1=Hs++[q.1] from ag hb];simp
   ·rw[show Hs1=Hs from ai hb];omega
  obtain⟨e3,P',Hs',t6,t7,t8,t9,g1,g2,g3,g4,g5⟩:=xn a tn htn l e2 (P++[t]) Hs1 K X Y Z h2 h01 hH1 (ho.snoc ok) (by rw[aw,br];omega) (by omega);refine⟨e3,t::P',Hs',t6,t7,t8,t9,g1,by rw[bD]at g2;exact g2,by rw[aF,aF,g3];rfl,λr hr=>?_,?_⟩
  ·rcases aO.mp hr with rfl|hr
   ·exact hpl
   ·exact g4 r hr
  ·rw[aF];unfold forL;rw[show gN 6 (.int (k:Nat)) [.pm es,a,.ls (P.map thD),.ls (Hs.map D.str),Q,N,s6,s7,s8,s9]=some [.pm es,a,.ls (P.map thD),.ls (Hs.map D.str),Q,N,K,s7,s8,s9] from rfl];simp only[xb];rw[g5,bD];rfl
def rmT(x:Str):Th:=⟨x,[x,"place"],.room,none⟩
structure Cn(T:List Th):Prop where
 ord:Ord T
 ex:∃(r tn n:Nat) (y:Str) (P:List Th),1<=r/\r<=5/\tn<4/\n<5/\T=(rmL.take r).map rmT++⟨"me", ["me", "self"],.you,some y⟩::P/\P.map Th.nw=(aV n).map (λk=>By ((k+tn) % 4))/\∀t∈P,t.k.pl=true
theorem zD:∀(l:List Str) (B:List Th),Ord B->Ord (B++l.map rmT)
 |[],B,h=>by rw[d7,bh];exact h
 |x::l,B,h=>by rw[aF,List.append_cons];exact zD l _ (h.snoc (.inl ⟨rfl,rfl⟩))
theorem EH(h:rY es):∃(T:List Th) (es':List L4.D),Cn T/\sD es []=some (TD (T++cc),es')/\rY es':=by
 let U:Sl:=.un;obtain⟨d,e1,x1,p0,p1,h1⟩:=dgx (i:=0) (b:=5) (a:=cC (.int 5)) (λes=>[.pm es,U,U,U,U,U,U,U,U,U]) (λ_=>rfl) (λ_ _=>rfl) rfl h (by decide) (by decide);obtain⟨r,rfl⟩:=cI p0;let R:List Str:=rmL.take (1+r);have lR:R.length=1+r:=by show (rmL.take (1+r)).length=_;rw[bf];show min (1+r) 5=_;omega
 let RS:Sl:=.im (.lst (R.map D.str));let T0:List Th:=R.map rmT;obtain⟨dd,hdd,e2,x2,h2⟩:=pk (i:=0) (e:=cV 1) (a:=c1 oR (cV 1)) (L:=R.map D.str) (λes=>[.pm es,RS,.ls (T0.map thD),U,U,U,U,U,U,U]) (λ_=>rfl) (λ_ _=>rfl) rfl rfl h1 (by intro z;have:=aM bM z;rw[af,lR]at this;simp at this) (by rw[af];omega);obtain⟨y,hy,rfl⟩:=az.mp hdd;let me:Th:=⟨"me", ["me", "self"],.you,some y⟩;let P0:List Th:=T0++[me];have o0:Ord T0:=by have:=zD R [] .nil;rw[b9]at this;exact this
 have o1:Ord P0:=o0.snoc (.inr (.inl ⟨rfl,rmT y,aR hy,rfl,rfl⟩));let Hs:List Str:=R++(["me"]:List Str);have hH:∀x∈Hs,∃u∈P0,u.n=x/\u.k.hd=true:=λx hx=>by
  rcases aN.mp hx with hx|hx
  ·exact⟨rmT x,bb _ (aR hx),rfl,rfl⟩
  ·exact⟨me,ba _ (aU.mpr rfl),(aU.mp hx).symm,rfl⟩
 have lP:P0.length=2+r:=by show (R.map rmT++[me]).length=_;rw[aw,af,lR];show 1+r+1=_;omega
 have lH:Hs.length=2+r:=by show (R++_).length=_;rw[aw,lR];show 1+r+1=_;omega
 let Q:Sl:=.im (.lst (plL.map plD));obtain⟨d3,e3,x3,q0,q1,h3⟩:=dgx (i:=0) (b:=4) (a:=cC (.int 4)) (λes=>[.pm es,RS,.ls (P0.map thD),.ls (Hs.map D.str),Q,U,U,U,U,U]) (λ_=>rfl) (λ_ _=>rfl) rfl h2 (by decide) (by decide);obtain⟨tn,rfl⟩:=cI q0;let N:Sl:=.im (.int (tn:Nat));obtain⟨d4,e4,x4,u0,u1,h4⟩:=dgx (i:=0) (b:=5) (a:=cC (.int 5)) (λes=>[.pm es,RS,.ls (P0.map thD),.ls (Hs.map D.str),Q,N,U,U,U,U]) (λ_=>rfl) (λ_ _=>rfl) rfl h3 (by decide) (by decide);obtain⟨n,rfl⟩:=cI u0;obtain⟨e5,P',Hs',t6,t7,t8,t9,h5,o5,g3,g4,x5⟩:=xn RS tn (by omega) (aV n) e4 P0 Hs U U U U h4 (by show R++(["me"]:List Str)≠[];simp) hH o1 (by rw[cW];omega) (by rw[cW];omega);let T:List Th:=P0++P';have lP':P'.length=n:=by have:=aM bM g3;rw[af,af,cW]at this;exact this
 have lT:T.length=2+r+n:=by show (P0++P').length=_;rw[aw,lP,lP']
 let HS:Sl:=.ls (Hs'.map D.str);have d0:Cn T:=⟨o5,1+r,tn,n,y,P',by omega,by omega,by omega,by omega,by show (R.map rmT++[me])++P'=_;rw[bD];rfl,g3,g4⟩;let TL:Sl:=.im (TD T);refine⟨T,e5,d0,?_,h5⟩;refine LY (ρ:=[.pm e5,RS,TL,HS,Q,N,t6,t7,t8,t9]) rfl ?_ rfl;unfold sC;refine(ni (ρ':=[.pm e1,RS,U,U,U,U,U,U,U,U]) ((ou (oU (yH (ds:=rmL.map D.str) (ρ1:=[.pm es,U,U,U,U,U,U,U,U,U]) rfl rfl (Cm (nW (x:=.int 1) rfl x1 rfl))))).trans ?_)).trans ?_
 ·show some (Out.nx [.pm e1,.im (.lst (cutD (rmL.map D.str) none (some (1+(r:Int))))),U,U,U,U,U,U,U,U])=_;rw[show (1+(r:Int))=((1+r:Nat):Int) by omega,Ay (1+r) (by rw[af];show 1+r<=5;omega),<- fN]
 refine(ni (ρ':=[.pm e1,RS,.ls (T0.map thD),U,U,U,U,U,U,U]) ((Ab (sU D.str (λx=>thD (rmT x)) R (ρ1:=[.pm e1,RS,U,U,U,U,U,U,U,U]) rfl (by omega) λx _=>⟨[.im (.str x)],[.im (.str x)],rfl,rfl,rfl⟩)).trans ?_)).trans ?_
 ·rw[show T0.map thD=R.map λx=>thD (rmT x) by show (R.map rmT).map thD=_;rw[aY];rfl];rfl
 refine(ni (ρ':=[.pm e2,RS,.ls (P0.map thD),U,U,U,U,U,U,U]) ((uI (Ad (es0:=T0.map thD) (es:=T0.map thD) (ρ1:=[.pm e2,RS,.ls (T0.map thD),U,U,U,U,U,U,U]) (d:=thD me) rfl (Aj (ds:=[.str "me", .tup [.str "me", .str "self"],.str "you", .str y]) (nD rfl (nD rfl (nD rfl (nD x2 rfl)))) rfl) rfl (by show ((R.map rmT).map thD).length<1000;rw[af,af];omega))).trans ?_)).trans ?_
 ·rw[show P0.map thD=T0.map thD++[thD me] by show (T0++[me]).map thD=_;rw[bg];rfl];rfl
 refine(ni (ρ':=[.pm e2,RS,.ls (P0.map thD),.ls (Hs.map D.str),U,U,U,U,U,U]) ((Ab (qk (xs:=R.map D.str) (ys:=[.str "me"]) (ρ1:=[.pm e2,RS,.ls (P0.map thD),U,U,U,U,U,U,U]) rfl rfl (by rw[af];show R.length+1<=1000;omega))).trans ?_)).trans ?_
 ·rw[show Hs.map D.str=R.map D.str++[.str "me"] by show (R++(["me"]:List Str)).map D.str=_;rw[bg];rfl];rfl
 refine(ni (ρ':=[.pm e2,RS,.ls (P0.map thD),.ls (Hs.map D.str),Q,U,U,U,U,U]) rfl).trans ?_;refine(ni ((ou x3).trans rfl)).trans ?_;refine(ni (ρ':=[.pm e5,RS,.ls (T.map thD),HS,Q,N,t6,t7,t8,t9]) ((qZ (Pn (ρ1:=[.pm e4,RS,.ls (P0.map thD),.ls (Hs.map D.str),Q,N,U,U,U,U]) x4 (by omega))).trans x5)).trans ?_;refine tH ((qk (xs:=T.map thD) (ys:=cc.map thD) (ρ1:=[.pm e5,RS,TL,HS,Q,N,t6,t7,t8,t9]) (ρ2:=[.pm e5,RS,TL,HS,Q,N,t6,t7,t8,t9]) rfl (by kernel_rfl) (by rw[af];show T.length+2<=1000;omega)).trans ?_);rw[<-bg]
def ccW:List (Str×List Str):=[("case", ["case"]),("candle", ["candle"])]
def pl6:List (Str×List Str):=plL++ccW
def nmL:List Str:=rmL++("me" : Str)::pl6.map bq
def wP(q:Str×List Str):Str×L4.D:=(q.1,.tup (q.2.map D.str))
def plW:List (Str×L4.D):=pl6.map wP
def wdW:List (Str×L4.D):=rmL.map (λx:Str=>wP (x,([x,"place"]:List Str)))++wP ("me", ["me", "self"])::plW
structure Good(T:List Tk):Prop where
 len:T.length<=12
 r1:1<=cK .room T
 r4:cK .room T<=5
 y1:cK .you T=1
 p4:(plN T).length<=6
 nm:∀t∈T,t.n=.str t.m/\t.m∈nmL
 nd:(T.map Tk.m).Nodup
 hall:∃t∈T,t.m="hall" /\ t.k=.room
 me:∃t∈T,t.m="me" /\ t.k=.you
 rm:∀x∈rmN T,x∈rmL
 can:∃t∈T,t.m="case" /\ t.k.mk=true
 cdn:∃t∈T,t.m="candle" /\ t.k.mk=true
 ca:∃t∈T,t.w=.tup [.str "case"]/\t.k.pl=true
 cd:∃t∈T,t.w=.tup [.str "candle"]/\t.k.pl=true
 wd:∀t∈T,(t.m,t.w)∈wdW/\(t.k.pl=true->(t.m,t.w)∈plW)
 st:∀t∈T,(t.k=.room/\t.s=.non)\/(t.k=.you/\∃u∈T,t.s=.str u.m/\u.k=.room)\/(t.k.pl=true/\∃u∈T,t.s=.str u.m/\u.k.hd=true)
 rk:∃r:Str->Nat,∀t∈T,r t.m<T.length/\(t.s=.non\/∃v∈T,t.s=.str v.m/\r v.m<r t.m)
def qL(tn n:Nat):List (Str×List Str):=((aV n).map λk=>By ((k+tn) % 4))++ccW
theorem NT:((aV 4).all λtn=>(aV 5).all λn=>decide (rmL++("me" : Str)::(qL tn n).map bq).Nodup)=true:=by kernel_rfl
theorem JJ{T1:List Th}(d:Cn T1):Good ((T1++cc).map Th.tk):=by
 obtain⟨r,tn,n,y,P1,r1,r4,ht,hn,e1,eP1,hP1⟩:=d.ex;let R:=(rmL.take r).map rmT;let me:Th:=⟨"me", ["me", "self"],.you,some y⟩;generalize eT:T1++cc=T0;generalize eQ:P1++cc=P;have e0:T0=R++me::P:=by rw[<-eT,<- eQ,e1,bD];rfl
 have eP:P.map Th.nw=qL tn n:=by rw[<-eQ,bg,eP1];rfl
 have hP:∀t∈P,t.k.pl=true:=λt h=>by
  rw[<-eQ]at h;rcases aN.mp h with h|h
  ·exact hP1 t h
  ·exact(show ∀t∈cc,t.k.pl=true by simp[cc,Kd.pl]) t h
 have hall1:rmT "hall" ∈ T1:=by rw[e1];refine bb _ (aR ?_);obtain⟨q,rfl⟩:∃q,r=q+1:=⟨r - 1,by omega⟩;exact aE
 have me1:me∈T1:=by rw[e1];exact ba _ aE
 have ord0:Ord T0:=by rw[<-eT];have o1:=d.ord.snoc (r:=⟨"case", ["case"],.box,some "hall"⟩) (.inr (.inr ⟨rfl,rmT "hall", hall1,rfl,rfl⟩));have o2:=o1.snoc (r:=⟨"candle", ["candle"],.lamp,some "me"⟩) (.inr (.inr ⟨rfl,me,bb _ me1,rfl,rfl⟩));rw[bD]at o2;exact o2
 have lR:R.length=r:=by show ((rmL.take r).map rmT).length=r;rw[af,bf];show min r 5=r;omega
 have lP:P.length=n+2:=by have:=aM bM eP;rw[af]at this;rw[this];unfold qL;rw[aw,af,cW];rfl
 have rk:∀t∈R,t.k=.room:=λt h=>by obtain⟨x,_,rfl⟩:=az.mp h;rfl
 have spl:∀p:Th->Bool,T0.filter p=R.filter p++((if p me=true then [me]else [])++P.filter p):=λp=>by rw[e0,List.filter_append,gj];show R.filter p++(if p me=true then me::P.filter p else P.filter p)=_;split<;>rfl
 have all_:∀(p:Kd->Bool) (L:List Th),(∀t∈L,p t.k=true)->L.filter (λt=>p t.k)=L:=λp L h=>jE.mpr h;have non_:∀(p:Kd->Bool) (L:List Th),(∀t∈L,p t.k=false)->L.filter (λt=>p t.k)=[]:=λp L h=>List.filter_eq_nil_iff.mpr λt ht z=>by rw[h t ht]at z;cases z
 have plk:∀k:Kd,k.pl=true->decide (k=.room)=false/\decide (k=.you)=false:=GU (λz=>by cases z) (λz=>by cases z) (λ_=>⟨rfl,rfl⟩) (λ_=>⟨rfl,rfl⟩) (λ_=>⟨rfl,rfl⟩) (λ_=>⟨rfl,rfl⟩);have fr:T0.filter (λt=>decide (t.k=.room))=R:=by rw[spl,all_ (λk=>decide (k=.room)) R λt h=>by rw[rk t h];rfl,non_ (λk=>decide (k=.room)) P λt h=>(plk t.k (hP t h)).1];exact bh R
 have fy:T0.filter (λt=>decide (t.k=.you))=[me]:=by rw[spl,non_ (λk=>decide (k=.you)) R λt h=>by rw[rk t h];rfl,non_ (λk=>decide (k=.you)) P λt h=>(plk t.k (hP t h)).2];rfl
 have fp:T0.filter (λt=>t.k.pl)=P:=by rw[spl,non_ Kd.pl R λt h=>by rw[rk t h];rfl,all_ Kd.pl P hP];rfl
 have eN:T0.map Th.n=rmL.take r++("me" : Str)::(qL tn n).map bq:=by
  rw[e0,bg,aF];have e1:((rmL.take r).map rmT).map Th.n=rmL.take r:=by rw[aY];exact fQ _
  have e2:P.map Th.n=(qL tn n).map bq:=by have:=aM (ly bq) eP;rw[aY]at this;exact this
  rw[show R.map Th.n=rmL.take r from e1,e2]
 have big:=bK (aK.mp (aK.mp NT tn (bH.mpr ht)) n (bH.mpr hn));have nd0:(T0.map Th.n).Nodup:=by rw[eN];exact big.sublist ((fD r rmL).append (j3 _))
 have qIn:∀x∈qL tn n,x∈pl6:=λx h=>by
  rcases aN.mp h with h|h
  ·obtain⟨k,_,e⟩:=az.mp h;rw[<-e];exact bb _ (Kp (dG _ (by decide))).1
  ·exact ba _ h
 have wP':∀t∈P,t.nw∈pl6:=λt h=>qIn _ (by rw[<-eP];exact aR h);have eM:(T0.map Th.tk).map Tk.m=T0.map Th.n:=by rw[aY];rfl
 have fl:∀p:Tk->Bool,(T0.map Th.tk).filter p=(T0.filter (p∘Th.tk)).map Th.tk:=λp=>List.filter_map;have hall0:rmT "hall" ∈ T0:=by rw[<-eT];exact bb _ hall1
 have me0:me∈T0:=by rw[<-eT];exact bb _ me1
 have cc0:∀t∈cc,t∈T0:=λt h=>by rw[<-eT];exact ba _ h
 constructor
 ·rw[af,e0,aw,aD,af,bf,lP];show min r 5+(n+2+1)<=12;omega
 ·show 1<=((T0.map Th.tk).filter λt=>decide (t.k=.room)).length;rw[fl,af];show 1<=(T0.filter λt=>decide (t.k=.room)).length;rw[fr,lR];exact r1
 ·show ((T0.map Th.tk).filter λt=>decide (t.k=.room)).length<=5;rw[fl,af];show (T0.filter λt=>decide (t.k=.room)).length<=5;rw[fr,lR];exact r4
 ·show ((T0.map Th.tk).filter λt=>decide (t.k=.you)).length=1;rw[fl,af];show (T0.filter λt=>decide (t.k=.you)).length=1;rw[fy];rfl
 ·show ((T0.map Th.tk).filter λt=>t.k.pl).length<=6;rw[fl,af];show (T0.filter λt=>t.k.pl).length<=6;rw[fp,lP];omega
 ·intro t ht;obtain⟨u,hu,rfl⟩:=az.mp ht;refine⟨rfl,?_⟩;have hx:u.n∈T0.map Th.n:=aR hu;rw[eN]at hx;show u.n∈nmL;rcases aN.mp hx with hx|hx
  ·exact bb _ (cM hx)
  ·refine ba _ ?_;rcases aO.mp hx with hx|hx
   ·rw[hx];exact aE
   ·obtain⟨q,hq,e⟩:=az.mp hx;rw[<-e];exact aG _ (aR (qIn q hq))
 ·rw[eM];exact nd0
 ·exact⟨_,aR hall0,rfl,rfl⟩
 ·exact⟨_,aR me0,rfl,rfl⟩
 ·intro x hx;unfold rmN at hx;rw[fl,show T0.filter ((λt:Tk=>decide (t.k=.room))∘Th.tk)=R from fr]at hx;obtain⟨t,ht,rfl⟩:=az.mp hx;obtain⟨u,hu,rfl⟩:=az.mp ht;obtain⟨z,hz,rfl⟩:=az.mp hu;exact cM hz
 ·exact⟨_,aR (cc0 _ aE),rfl,rfl⟩
 ·exact⟨_,aR (cc0 _ (aG _ aE)),rfl,rfl⟩
 ·exact⟨_,aR (cc0 _ aE),rfl,rfl⟩
 ·exact⟨_,aR (cc0 _ (aG _ aE)),rfl,rfl⟩
 ·intro t ht;obtain⟨u,hu,rfl⟩:=az.mp ht;have pp:u.nw∈pl6->((u.tk.m,u.tk.w):Str×L4.D)∈plW:=λh=>aR (f:=wP) h;rw[e0]at hu;rcases aN.mp hu with h|h
  ·obtain⟨x,hx,rfl⟩:=az.mp h;exact⟨bb _ (az.mpr ⟨x,cM hx,rfl⟩),λz=>by cases z⟩
  ·rcases aO.mp h with rfl|h
   ·exact⟨ba _ aE,λz=>by cases z⟩
   ·exact⟨ba _ (aG _ (pp (wP' u h))),λ_=>pp (wP' u h)⟩
 ·intro t ht;obtain⟨u,hu,rfl⟩:=az.mp ht;rcases ord0.all u hu with ⟨h1,h2⟩|⟨h1,v,hv,h2,h3⟩|⟨h1,v,hv,h2,h3⟩
  ·exact .inl ⟨h1,by show oS u.s=_;rw[h2];rfl⟩
  ·exact .inr (.inl ⟨h1,v.tk,aR hv,by show oS u.s=_;rw[h2];rfl,h3⟩)
  ·exact .inr (.inr ⟨h1,v.tk,aR hv,by show oS u.s=_;rw[h2];rfl,h3⟩)
 ·obtain⟨rk,h⟩:=ord0.rank nd0;refine⟨rk,λt ht=>?_⟩;obtain⟨u,hu,rfl⟩:=az.mp ht;obtain⟨h1,h2⟩:=h u hu;refine⟨by rw[af];exact h1,?_⟩;cases e:u.s with
  |none=>exact .inl (by show oS u.s=_;rw[e];rfl)
  |some p=>obtain⟨h3,v,hv,rfl⟩:=h2 p e;exact .inr ⟨v.tk,aR hv,by show oS u.s=_;rw[e];rfl,h3⟩
theorem Cp{α:Type}{p:α->Bool}:∀{l:List α},l.all p=false->∃a∈l,p a=false
 |[],h=>by cases h
 |a::l,h=>by
  rw[c8]at h;cases q:p a with
  |false=>exact⟨a,aE,q⟩
  |true=>rw[q,kO]at h;obtain⟨b,hb,e⟩:=Cp h;exact⟨b,aG _ hb,e⟩
theorem Po:(nmL.all λx=>isT (n4 [.str x]))=true:=by kernel_rfl
theorem Pp:(wdW.all λq=>isT (qr [q.2]))=true:=by kernel_rfl
def hA(u t:Tk):Bool:=isT (qt [u.w,t.w])
theorem hH:((plW.map dg).all λa=>(plW.map dg).all λb=>isB (qt [a,b]))=true:=by kernel_rfl
theorem EI:(plW.all λp=>plW.all λq=>decide (q.1=p.1)||!isT (qt [q.2,p.2]))=true:=by kernel_rfl
section
variable{T:List Tk}(g:Good T)
include g
theorem JK(ht:t∈T):stB T t=true:=by
 obtain⟨n,w,k,s⟩:=t;have hr:∀u∈T,u.k=.room->u.m∈rmN T:=λu hu hk=>aR (bF.mpr ⟨hu,aH hk⟩);have hh:∀u∈T,u.k.hd=true->u.m∈hdN T:=λu hu hk=>aR (bF.mpr ⟨hu,hk⟩);rcases g.st _ ht with ⟨h1,h2⟩|⟨h1,u,hu,h2,h3⟩|⟨h1,u,hu,h2,h3⟩
 ·simp only at h1 h2;subst h1 h2;rfl
 ·simp only at h1 h2;subst h1 h2;exact aH (hr u hu h3)
 ·simp only at h1 h2;subst h2;cases k with
  |room=>cases h1
  |you=>cases h1
  |_=>exact aH (hh u hu h3)
theorem EJ:pY [LD T]=some true:=by
 have l:T.length<=900:=by have:=g.len;omega
 obtain⟨r,hr⟩:=g.rk;have hs:∀t∈T,sOk t.s=true:=λt h1=>by rcases g.st t h1 with ⟨_,e⟩|⟨_,u,_,e,_⟩|⟨_,u,_,e,_⟩<;>rw[e]<;>rfl
 refine(NO l (λt h=>(g.nm t h).1) hs g.nd (qK λt ht=>JK g ht) (λ_=>true) λt ht=>?_).trans (by rw[qK λ_ _=>rfl]);refine GR l g.nd (λu=>u∈T) r (λu _ hu=>?_) ht ht;obtain⟨h2,h3⟩:=hr u hu;refine⟨h2,?_⟩;rcases h3 with h3|⟨v,hv,h4,h5⟩
 ·exact .inl h3
 ·exact .inr ⟨v,hv,hv,h4,h5⟩
theorem GV:oe [LD T]=some true:=by
 have wt:∀t∈T,qr [t.w]=some (.bl true):=λt ht=>Au (aK.mp Pp _ (g.wd t ht).1);have pm:∀t∈plN T,(t.m,t.w)∈plW:=λt ht=>(g.wd t (bF.mp ht).1).2 (bF.mp ht).2;refine((NP (by have:=g.len;omega) (λ_=>true) wt).2 (qK λ_ _=>rfl) (λt h=>(g.nm t h).1) hA λt ht u hu=>?_).trans ?_
 ·exact As (aK.mp (aK.mp hH u.w (az.mpr ⟨_,pm u hu,rfl⟩)) t.w (az.mpr ⟨_,pm t ht,rfl⟩))
 ·rw[qK λt ht=>?_];unfold taB;rw[cq,fF];intro z;obtain⟨u,hu,e⟩:=cv.mp z;obtain⟨hu,ne⟩:=bF.mp hu;have q:=aK.mp (aK.mp EI _ (pm t ht)) _ (pm u hu);rw[dX]at q;rcases q with q|q
  ·rw[show decide (u.m=t.m)=true from q]at ne;cases ne
  ·unfold hA at e;rw[e]at q;cases q
theorem rt:Rt T:=⟨by have:=g.len;omega,λt h=>(g.nm t h).1,Pi (by have:=g.len;omega) g.r1 g.r4 g.y1 (by have:=g.p4;omega),EJ g,GV g⟩
theorem AA:("hall" : Str)∈rmN T:=by obtain⟨t,ht,h1,h2⟩:=g.hall;rw[<-h1];exact aR (bF.mpr ⟨ht,aH h2⟩)
end
structure Mg where
 n:L4.D
 st:L4.D
 mo:L4.D
def mgD(m:Mg):L4.D:=.obj 1 ["name", "start", "most"] [m.n,m.st,m.mo]
theorem GW(l:List L4.D)(n:Nat):og [.lst l,.int n]=some (.bl (decide (l.length<=n))):=by
 refine pd (ρ:=[.im (.lst l),.im (.int n)]) rfl ?_;refine qc ((pS rfl).trans (nW (x:=.int l.length) (y:=.int n) (oi rfl rfl) rfl ?_));show some (D.bl (decide ((l.length:Int)<=n)))=_;by_cases h:l.length<=n
 ·rw[aH h,aH (by omega)]
 ·rw[aQ h,aQ (by omega)]
theorem uF{e':FE}(h:e ρ=some (.bl false,ρ1)):pM e e' ρ=some (.bl false,ρ1):=by unfold pM;rw[h]
variable{ms:List Mg}
theorem BA(hl:ms.length<=20)(p:Mg->Bool)(hp:∀m∈ms,oW [mgD m]=some (.bl (p m))):pJ [.lst (ms.map mgD)]=some (decide (ms.length<=4)&&ms.all p):=by
 let d:L4.D:=.lst (ms.map mgD);let b:Bool:=decide (ms.length<=4)&&ms.all p;let ρ:List Sl:=[.im d,.im (.bl b)];have e0:nv og (aCons (cV 0) (a1 (cC rA))) [.im d,.un]=some (.bl (decide (ms.length<=4)),[.im d,.un]):=nL (ds:=[d,.int 4]) rfl ((GW (ms.map mgD) 4).trans (by rw[af]));have e1:c1 pL (cL (nJ 1 [] (iL (cV 0)) (gN 0) oh (nv oW (a1 (cV 0))))) [.im d,.un]=some (.bl (ms.all p),[.im d,.un]):=qJ mgD p ms (ρ1:=[.im d,.un]) rfl (by omega) λm hm=>⟨[.im (mgD m)],[.im (mgD m)],rfl,nL rfl (hp m hm),rfl⟩;have e:ot 1 (pM (nv og (aCons (cV 0) (a1 (cC rA)))) (c1 pL (cL (nJ 1 [] (iL (cV 0)) (gN 0) oh (nv oW (a1 (cV 0))))))) [.im d,.un]=some (.nx ρ):=by
  refine(ou (d:=.bl b) (ρ':=[.im d,.un]) ?_).trans rfl;cases h:decide (ms.length<=4)with
  |true=>rw[h]at e0;exact(pS e0).trans (e1.trans (by show _=some (D.bl (decide (ms.length<=4)&&ms.all p),_);rw[h];rfl))
  |false=>rw[h]at e0;exact(uF e0).trans (by show _=some (D.bl (decide (ms.length<=4)&&ms.all p),_);rw[h];rfl)
 show _=some b;cases hb:b with
 |true=>refine Aq (ρ:=ρ) rfl ?_;unfold qR;refine(ni (qa e)).trans ?_;exact oH (show cV 1 ρ=some (.bl true,ρ) by show some (D.bl b,ρ)=_;rw[hb])
 |false=>refine uD (ρ:=ρ) rfl ?_;unfold qR;refine(ni (qa e)).trans ?_;exact sT (show cV 1 ρ=some (.bl false,ρ) by show some (D.bl b,ρ)=_;rw[hb])
theorem DA(m:Mg):nR nO "name" (mgD m)=some m.n:=rfl
theorem BB(g:Good T)(hM:ms.length<=20)(p:Mg->Bool)(hp:∀m∈ms,n4 [m.n]=some (.bl (p m))):(ms.all p=false->o7 [LD T,.lst (ms.map mgD)]=some false)/\(ms.all p=true->∀l:List Str,ms.map Mg.n=l.map D.str->o7 [LD T,.lst (ms.map mgD)]=some (decide (T.map Tk.m++l).Nodup)):=by
 have hT:=g.len;let ρ0:List Sl:=[.im (LD T),.im (.lst (ms.map mgD)),.un];let ds:List L4.D:=T.map Tk.n++ms.map Mg.n;let ρ:List Sl:=[.im (LD T),.im (.lst (ms.map mgD)),.im (.lst ds)];have e1:nJ 1 [] (iL (cV 0)) (gN 0) oh (c1 (nR nO "name") (cV 0)) ρ0=some (T.map Tk.n,ρ0):=sU tkD Tk.n T rfl (by omega) λt _=>⟨_,_,rfl,oi rfl (sE t),rfl⟩;have e2:nJ 1 [] (iL (cV 1)) (gN 0) oh (c1 (nR nO "name") (cV 0)) ρ0=some (ms.map Mg.n,ρ0):=sU mgD Mg.n ms rfl (by omega) λt _=>⟨_,_,rfl,oi rfl (DA t),rfl⟩;have e3:=ou (i:=2) (oU (qk (oU e1) (oU e2) (by rw[af,af];omega)));have hds:ds.length<=1000:=by show (T.map Tk.n++ms.map Mg.n).length<=1000;rw[aw,af,af];omega
 have tn:∀t∈T,n4 [t.n]=some (.bl true):=λt ht=>by obtain⟨e,m⟩:=g.nm t ht;rw[e];exact Au (aK.mp Po t.m m)
 have tot:∀d∈ds,n4 [d]=some (.bl (isT (n4 [d]))):=λd hd=>by
  rcases aN.mp hd with h|h
  ·obtain⟨t,ht,rfl⟩:=az.mp h;rw[tn t ht];rfl
  ·obtain⟨m,h',rfl⟩:=az.mp h;rw[hp m h'];rfl
 have ea:c1 pL (cL (nJ 1 [] (iL (cV 2)) (gN 0) oh (nv n4 (a1 (cV 0))))) ρ=some (.bl (ds.all λd=>isT (n4 [d])),ρ):=
  qJ id (λd=>isT (n4 [d])) ds (by rw[fQ];rfl) hds λd hd=>⟨[.im d],[.im d],rfl,nL rfl (tot d hd),rfl⟩
 have es:(ds.all λd=>isT (n4 [d]))=ms.all p:=by show ((T.map Tk.n++ms.map Mg.n).all λd=>isT (n4 [d]))=_;rw[List.all_append,gx,gx,qK (l:=T) (λt h=>by show isT (n4 [t.n])=true;rw[tn t h];rfl),kO];exact Bt λm h=>by show isT (n4 [m.n])=p m;rw[hp m h];rfl
 rw[es]at ea;constructor
 ·intro h;rw[h]at ea;refine uD (ρ:=ρ) rfl ?_;unfold qf;refine(ni (ρ':=ρ) (qa e3)).trans ?_;exact uC (sT ea)
 ·intro h l el;rw[h]at ea;have ed:ds=(T.map Tk.m++l).map D.str:=by show T.map Tk.n++ms.map Mg.n=_;rw[el,bg,aY];congr 1;exact jG λt ht=>(g.nm t ht).1
  have eu:nv n8 (a1 (cV 2)) ρ=some (.bl (decide (T.map Tk.m++l).Nodup),ρ):=by refine nL (ds:=[.lst ds]) rfl ?_;rw[ed]at hds ⊢;rw[af]at hds;exact vt hds
  cases hn:decide (T.map Tk.m++l).Nodup with
  |true=>rw[hn]at eu;refine Aq (ρ:=ρ) rfl ?_;unfold qf;refine(ni (ρ':=ρ) (qa e3)).trans ?_;rw[ni (oH ea)];exact oH eu
  |false=>rw[hn]at eu;refine uD (ρ:=ρ) rfl ?_;unfold qf;refine(ni (ρ':=ρ) (qa e3)).trans ?_;rw[ni (oH ea)];exact sT eu
variable{R:List Str}
theorem DB(hl:ds.length<=100)(hs:∀d∈ds,sOk d=true):(ds.all (λd=>isIn d R)=false->oO [.lst ds,.lst (R.map D.str)]=some false)/\(ds.all (λd=>isIn d R)=true->∀l:List Str,ds=l.map D.str->oO [.lst ds,.lst (R.map D.str)]=some (decide l.Nodup)):=by
 let A:Sl:=.im (.lst ds);let B:Sl:=.im (.lst (R.map D.str));let ρ0:List Sl:=[A,B,.un];have ea:c1 pL (cL (nJ 1 [1] (iL (cV 0)) (gN 0) oh (nv nX (aCons (cV 0) (a1 (cV 1)))))) ρ0=some (.bl (ds.all λd=>isIn d R),ρ0):=qJ id (λd=>isIn d R) ds (ρ1:=ρ0) (by rw[fQ];rfl) (by omega) λd hd=>⟨[.im d,B],[.im d,B],rfl,nL (ds:=[d,.lst (R.map D.str)]) rfl (wF (hs d hd) R),rfl⟩;have fin:∀b:Bool,pM (c1 pL (cL (nJ 1 [1] (iL (cV 0)) (gN 0) oh (nv nX (aCons (cV 0) (a1 (cV 1))))))) (nv n8 (a1 (cV 0))) ρ0=some (.bl b,ρ0)->oO [.lst ds,.lst (R.map D.str)]=some b:=λb h=>by
  let ρ:List Sl:=[A,B,.im (.bl b)];have e:ot 2 (pM (c1 (qB (pG "list")) (cV 0)) (pM (c1 pL (cL (nJ 1 [1] (iL (cV 0)) (gN 0) oh (nv nX (aCons (cV 0) (a1 (cV 1))))))) (nv n8 (a1 (cV 0))))) ρ0=some (.nx ρ):=(ou ((pS (ρ1:=ρ0) rfl).trans h)).trans rfl;cases b with
  |true=>refine Aq (ρ:=ρ) rfl ?_;unfold rB;exact(ni (qa e)).trans (oH (ρ1:=ρ) rfl)
  |false=>refine uD (ρ:=ρ) rfl ?_;unfold rB;exact(ni (qa e)).trans (sT (ρ1:=ρ) rfl)
 constructor
 ·intro h;rw[h]at ea;exact fin false (uF ea)
 ·intro h l el;rw[h]at ea;refine fin _ ((pS ea).trans (nL (ds:=[.lst ds]) rfl ?_));subst el;rw[af]at hl;exact vt (by omega)
theorem GY{κ:Type}[DecidableEq κ]:∀(ks acc:List κ),acc.Nodup->(ks.foldl (λacc k=>if k∈acc then acc else acc++[k]) acc).length<=acc.length+ks.length/\((ks.foldl (λacc k=>if k∈acc then acc else acc++[k]) acc).length=acc.length+ks.length ↔ (acc++ks).Nodup)
 |[],acc,h=>⟨aA _,by rw[bh];exact⟨λ_=>h,λ_=>rfl⟩⟩
 |k::ks,acc,h=>by
  rw[cy,aD];by_cases hk:k∈acc
  ·rw[ag hk];obtain⟨h1,h2⟩:=GY ks acc h;exact⟨by omega,λz=>by omega,λz=>ak rfl ((bG.mp z).2.2 k hk k aE)⟩
  ·rw[ai hk];have h':(acc++[k]).Nodup:=bG.mpr ⟨h,by simp,λa ha b hb e=>by rw[aU]at hb;subst hb e;exact hk ha⟩;obtain⟨h1,h2⟩:=GY ks (acc++[k]) h';rw[aw,br,bD]at h2;rw[aw,br]at h1;refine⟨by omega,?_⟩;rw[show acc.length+(ks.length+1)=acc.length+1+ks.length by omega];exact h2
structure Wy where
 r:Str
 w:Str
 g:Str
 m:Option Str
def wyD(w:Wy):L4.D:=.tup [.str w.r,.str w.w,.str w.g,oS w.m]
def prD(w:Wy):L4.D:=.tup [.str w.r,.str w.w]
def pk2(w:Wy):List Str:=[w.r,w.w]
theorem BC:∀W:List Wy,wX (W.map prD)=some (W.map pk2)
 |[]=>rfl
 |w::W=>by rw[aF,aF];show (match key2 (prD w),wX (W.map prD)with|some k,some ks=>some (k::ks)|_,_=>none)=_;rw[BC W];rfl
theorem GZ{W:List Wy}(hl:W.length<=20):n8 [.lst (W.map prD)]=some (.bl (decide (W.map pk2).Nodup)):=by
 refine pd (ρ:=[.im (.lst (W.map prD))]) rfl ?_;have el:c1 oR (cV 0) [.im (.lst (W.map prD))]=some (.int W.length,[.im (.lst (W.map prD))]):=oi rfl (by show some (D.int _)=_;rw[af]);obtain⟨h1,h2⟩:=GY (W.map pk2) [] gp;rw[b8,eL,af,b9]at h2;rw[b8,eL,af]at h1;have es:ug pairsU (.lst (W.map prD))=some (.int (uqK (W.map pk2)).length):=by
  cases W with
  |nil=>rfl
  |cons w W=>show (match pf (prD w::W.map prD)with|some r=>some r|none=>pairsU ((w::W).map prD))=_;rw[show pf (prD w::W.map prD)=none from rfl];show pairsU ((w::W).map prD)=_;unfold pairsU;rw[BC];simp only;rw[ag (by rw[af];omega)]
 refine qc (nW (x:=.int (uqK (W.map pk2)).length) (y:=.int W.length) (oi rfl es) el ?_);rw[xE];show some (D.bl (decide (((uqK (W.map pk2)).length:Int)=W.length)))=_;have h2':(uqK (W.map pk2)).length=W.length ↔ (W.map pk2).Nodup:=h2;by_cases h:(W.map pk2).Nodup
 ·rw[aH h,aH (by have:=h2'.mpr h;omega)]
 ·rw[aQ h,aQ λz=>h (h2'.mp (by omega))]
def wB(a b c m:L4.D)(R l:List Str):Bool:=isIn a R&&(isT (ox [b])&&(isIn c R&&(Av m||isIn m l)))
theorem wG{a b c m:L4.D}(ha:sOk a=true)(hb:isB (ox [b])=true)(hc:sOk c=true)(hm:sOk m=true):pI [.tup [a,b,c,m],.lst (R.map D.str),.lst (l.map D.str)]=some (.bl (wB a b c m R l)):=by
 let w:L4.D:=.tup [a,b,c,m];let ρ0:List Sl:=[.im w,.im (.lst (R.map D.str)),.im (.lst (l.map D.str)),.un];let x:Bool:=Av m||isIn m l;let ρ:List Sl:=[.im w,.im (.lst (R.map D.str)),.im (.lst (l.map D.str)),.im (.bl x)];refine pd (ρ:=ρ) rfl ?_;unfold yE;refine(ni (ρ':=ρ0) rfl).trans ?_;have ex:cOr (c2 xu (c2 dIx (cV 0) (cC (.int 3))) (cC D.non)) (nv nX (aCons (c2 dIx (cV 0) (cC (.int 3))) (a1 (cV 2)))) ρ0=some (.bl x,ρ0):=by
  have en:xu m .non=some (.bl (Av m)):=by
   cases m with
   |_=>first|rfl|cases hm
  have e:c2 xu (c2 dIx (cV 0) (cC (.int 3))) (cC D.non) ρ0=some (.bl (Av m),ρ0):=nW (x:=m) (y:=.non) (nW (x:=w) (y:=.int 3) rfl rfl rfl) rfl en;have e2:nv nX (aCons (c2 dIx (cV 0) (cC (.int 3))) (a1 (cV 2))) ρ0=some (.bl (isIn m l),ρ0):=nL (ds:=[m,.lst (l.map D.str)]) (nD (nW (x:=w) (y:=.int 3) rfl rfl rfl) (nD rfl rfl)) (wF hm l);unfold cOr;rw[e];cases hq:Av m with
  |true=>show some (D.bl true,ρ0)=some (D.bl (Av m||isIn m l),ρ0);rw[hq];rfl
  |false=>show nv nX _ ρ0=some (D.bl (Av m||isIn m l),ρ0);rw[e2,hq];rfl
 refine(ni (ρ':=ρ) ((ou ex).trans rfl)).trans (qc ?_);have i0:nv nX (aCons (c2 dIx (cV 0) (cC (.int 0))) (a1 (cV 1))) ρ=some (.bl (isIn a R),ρ):=nL (ds:=[a,.lst (R.map D.str)]) rfl (wF ha R);have i1:nv ox (a1 (c2 dIx (cV 0) (cC (.int 1)))) ρ=some (.bl (isT (ox [b])),ρ):=nL (ds:=[b]) rfl (As hb);have i2:nv nX (aCons (c2 dIx (cV 0) (cC (.int 2))) (a1 (cV 1))) ρ=some (.bl (isIn c R),ρ):=nL (ds:=[c,.lst (R.map D.str)]) rfl (wF hc R);have i3:cV 3 ρ=some (.bl x,ρ):=rfl;unfold wB;show _=some (D.bl (isIn a R&&(isT (ox [b])&&(isIn c R&&x))),ρ);generalize isIn a R=b0 at i0 ⊢;generalize isT (ox [b])=b1 at i1 ⊢;generalize isIn c R=b2 at i2 ⊢;cases b0 with
 |false=>exact uF i0
 |true=>
  refine(pS i0).trans ?_;cases b1 with
  |false=>exact uF i1
  |true=>
   refine(pS i1).trans ?_;cases b2 with
   |false=>exact uF i2
   |true=>exact(pS i2).trans i3
theorem JL{ws:List L4.D}{R l:L4.D}(hl:ws.length<=10)(p:L4.D->Bool)(hp:∀w∈ws,pI [w,R,l]=some (.bl (p w)))(h:ws.all p=false):px [.lst ws,R,l]=some false:=by
 let A:Sl:=.im (.lst ws);let B:Sl:=.im R;let C:Sl:=.im l;let ρ:List Sl:=[A,B,C,.im (.bl false)];have e:ot 3 (pM (nv og (aCons (cV 0) (a1 (cC sj)))) (c1 pL (cL (nJ 1 [1,2] (iL (cV 0)) (gN 0) oh (nv pI (aCons (cV 0) (aCons (cV 1) (a1 (cV 2))))))))) [A,B,C,.un]=some (.nx ρ):=
  (ou ((pS (nL (ds:=[.lst ws,.int 10]) rfl ((GW ws 10).trans (by rw[aH hl])))).trans ((qJ id p ws (ρ1:=[A,B,C,.un]) (by rw[fQ];rfl) (by omega) λw hw=>⟨[.im w,B,C],[.im w,B,C],rfl,nL (ds:=[w,R,l]) rfl (hp w hw),rfl⟩).trans (by rw[h])))).trans rfl
 refine uD (ρ:=ρ) rfl ?_;unfold qF;exact(ni (qa e)).trans (uC (sT (ρ1:=ρ) rfl))
theorem DC{W:List Wy}(hl:W.length<=10)(h:∀w∈W,wB (.str w.r) (.str w.w) (.str w.g) (oS w.m) R l=true/\isB (ox [.str w.w])=true):px [.lst (W.map wyD),.lst (R.map D.str),.lst (l.map D.str)]=some (decide (W.map pk2).Nodup):=by
 let A:Sl:=.im (.lst (W.map wyD));let B:Sl:=.im (.lst (R.map D.str));let C:Sl:=.im (.lst (l.map D.str));let ρ:List Sl:=[A,B,C,.im (.bl true)];have so:∀o:Option Str,sOk (oS o)=true:=λo=>by cases o<;>rfl
 have e:ot 3 (pM (nv og (aCons (cV 0) (a1 (cC sj)))) (c1 pL (cL (nJ 1 [1,2] (iL (cV 0)) (gN 0) oh (nv pI (aCons (cV 0) (aCons (cV 1) (a1 (cV 2))))))))) [A,B,C,.un]=some (.nx ρ):=
  (ou ((pS (nL (ds:=[.lst (W.map wyD),.int 10]) rfl ((GW _ 10).trans (by rw[af,aH hl])))).trans ((qJ wyD (λ_=>true) W (ρ1:=[A,B,C,.un]) rfl (by omega) λw hw=>⟨[.im (wyD w),B,C],[.im (wyD w),B,C],rfl,nL (ds:=[wyD w,.lst (R.map D.str),.lst (l.map D.str)]) rfl ((wG rfl (h w hw).2 rfl (so w.m)).trans (by rw[(h w hw).1])),rfl⟩).trans (by rw[qK λ_ _=>rfl])))).trans rfl
 have ep:nv n8 (a1 (cL (nJ 1 [] (iL (cV 0)) (gN 0) oh (om (aCons (c2 dIx (cV 0) (cC (.int 0))) (a1 (c2 dIx (cV 0) (cC (.int 1))))))))) ρ=some (.bl (decide (W.map pk2).Nodup),ρ):=
  nL (nD (oU (sU wyD prD W (ρ1:=ρ) rfl (by omega) λw _=>⟨[.im (wyD w)],[.im (wyD w)],rfl,rfl,rfl⟩)) rfl) (GZ (by omega))
 generalize decide (W.map pk2).Nodup=b at ep ⊢;cases b with
 |true=>refine Aq (ρ:=ρ) rfl ?_;unfold qF;exact(ni (qa e)).trans ((ni (oH (ρ1:=ρ) rfl)).trans (oH ep))
 |false=>refine uD (ρ:=ρ) rfl ?_;unfold qF;exact(ni (qa e)).trans ((ni (oH (ρ1:=ρ) rfl)).trans (sT ep))
def mO:List (List Mg):=[[⟨(.str "it"),(.int 0),(.int 1)⟩],[⟨(.str "here"),(.int 0),(.int 1)⟩],[⟨(.str "the"),(.int 0),(.int 1)⟩],[⟨(.str "undo"),(.int 0),(.int 1)⟩],[⟨(.str ""),(.int 0),(.int 1)⟩],[⟨(.str "Gate"),(.int 0),(.int 1)⟩],[⟨(.str "ninesigns"),(.int 0),(.int 1)⟩],[⟨.non,(.int 0),(.int 1)⟩],[⟨(.int 5),(.int 0),(.int 1)⟩],[⟨(.str "hall"),(.int 0),(.int 1)⟩],[⟨(.str "case"),(.int 0),(.int 1)⟩],[⟨(.str "candle"),(.int 0),(.int 1)⟩],[⟨(.str "me"),(.int 0),(.int 1)⟩],[⟨(.str "odd"),(.int 0),(.int 0)⟩],[⟨(.str "odd"),(.int 0),(.int 4)⟩],[⟨(.str "odd"),(.int 0),(.bl true)⟩],[⟨(.str "odd"),(.int 1),(.str "1")⟩],[⟨(.str "odd"),(.int 0),.non⟩],[⟨(.str "odd"),(.int (-1)),(.int 1)⟩],[⟨(.str "odd"),(.int 2),(.int 1)⟩],[⟨(.str "odd"),(.bl true),(.int 1)⟩],[⟨(.str "odd"),(.bl false),(.int 2)⟩],[⟨(.str "odd"),(.int 4),(.int 3)⟩],[⟨(.str "odd"),.non,(.int 1)⟩],[⟨(.str "odd"),(.str "0"),(.int 1)⟩],[⟨(.str "odd"),(.int 0),(.int (-1))⟩],[⟨(.str "odd"),(.int 3),(.int 2)⟩],[⟨(.str "odd"),(.int 0),(.int 1)⟩,⟨(.str "odd"),(.int 1),(.int 3)⟩],[⟨(.str "luck"),(.int 0),(.int 1)⟩,⟨(.str "luck"),(.int 0),(.int 1)⟩]]
def dO:List (List L4.D):=[[(.str "nobody")],[(.str "case")],[(.str "me")],[.non],[(.int 3)],[(.str "odd"),(.str "odd")],[(.tup [(.str "hall")])],[(.str "here")],[(.str "hall"),(.str "hall")]]
def nw5:List L4.D:=[(.tup [(.str "hall"),(.str "down"),(.str "hall")]),(.lst [(.str "hall"),(.str "down"),(.str "hall"),.non]),(.tup [(.str "hall"),(.str "down"),(.str "hall"),.non,.non]),.non,(.str "way")]
def qW:List (L4.D×L4.D×L4.D×L4.D):=[((.str "me"),(.str "down"),(.str "hall"),.non),((.str "hall"),(.str "down"),(.str "me"),.non),((.str "hall"),(.str "down"),(.str "case"),.non),((.str "nobody"),(.str "down"),(.str "hall"),.non),((.str "hall"),(.str "down"),(.str "nobody"),.non),(.non,(.str "down"),(.str "hall"),.non),((.str "hall"),(.str "Down"),(.str "hall"),.non),((.str "hall"),(.str ""),(.str "hall"),.non),((.str "hall"),(.str "the"),(.str "hall"),.non),((.str "hall"),(.str "a"),(.str "hall"),.non),((.str "hall"),(.str "thirteensigns"),(.str "hall"),.non),((.str "hall"),.non,(.str "hall"),.non),((.str "hall"),(.int 3),(.str "hall"),.non),((.str "hall"),(.str "b2"),(.str "hall"),.non),((.str "hall"),(.str "down"),(.str "hall"),(.str "nobody")),((.str "hall"),(.str "down"),(.str "hall"),(.str "hall")),((.str "hall"),(.str "down"),(.str "hall"),(.str "me")),((.str "hall"),(.str "down"),(.str "hall"),(.int 3)),((.str "hall"),(.str "down"),(.str "hall"),(.str "")),((.str "hall"),(.str "down"),(.str "hall"),(.bl true)),((.str "hall"),(.str "down"),(.str "hall"),(.str "down"))]
def qD(q:L4.D×L4.D×L4.D×L4.D):L4.D:=.tup [q.1,q.2.1,q.2.2.1,q.2.2.2]
def dW:List (List Wy):=[[⟨"hall", "down", "hall", none⟩,⟨"hall", "down", "hall", some "case"⟩],[⟨"hall", "down", "hall", none⟩,⟨"hall", "down", "hall", none⟩]]
theorem Pq:qH []=some (.lst (mO.map λo=>.lst (o.map mgD))):=by kernel_rfl
theorem Pr:qV []=some (.lst (dO.map D.lst)):=by kernel_rfl
theorem Pt:qX []=some (.lst ((nw5.map λd=>.lst [d])++(qW.map λq=>.lst [qD q])++dW.map λo=>.lst (o.map wyD))):=by kernel_rfl
structure Mk' where
 n:Str
 mo:Int
def Mk'.g(m:Mk'):Mg:=⟨.str m.n,.int 1,.int m.mo⟩
def mkL:List Str:=["gate", "tide", "i"]
def drN:List Str:=pl6.map bq++mkL
def mkN(T:List Tk)(M:List Mk'):List Str:=(T.filter λt=>t.k.mk).map Tk.m++M.map Mk'.n
abbrev MD'(M:List Mk'):L4.D:=.lst ((M.map Mk'.g).map mgD)
structure Wd(T:List Tk)(M:List Mk')(dk:List Str)(W:List Wy):Prop where
 g:Good T
 mn:∃n,M.map Mk'.n=mkL.take n
 mo:∀m∈M,m.mo=1\/m.mo=2\/m.mo=3
 dn:dk.Nodup
 di:∀x∈dk,x∈rmN T/\x≠"hall"
 wl:W.length<=8
 wo:∀w∈W,w.r∈rmN T/\w.w∈(["north", "up"]:List Str)/\w.g∈rmN T/\∀x,w.m=some x->x∈mkN T M
 wn:(W.map pk2).Nodup
section
variable{T:List Tk}{M:List Mk'}{dk:List Str}{W:List Wy}(w:Wd T M dk W)
include w
theorem Wd.lm:M.length<=3:=by obtain⟨n,e⟩:=w.mn;have:=aM bM e;rw[af,bf]at this;rw[this];exact ix _ _
theorem Wd.nmL':∀m∈M,m.n∈mkL:=λm hm=>by obtain⟨n,e⟩:=w.mn;have:m.n∈M.map Mk'.n:=aR hm;rw[e]at this;exact cM this
theorem Wd.mark:∀m∈M,oW [mgD m.g]=some (.bl true):=λm hm=>by obtain⟨n,mo⟩:=m;rcases w.mo _ hm with h|h|h<;>(simp only at h;subst h;kernel_rfl)
theorem Wd.name:∀m∈M,n4 [m.g.n]=some (.bl true):=λm hm=>Au (aK.mp (show (mkL.all λx=>isT (n4 [.str x]))=true by kernel_rfl) m.n (w.nmL' m hm))
theorem Wd.nd:(T.map Tk.m++M.map Mk'.n).Nodup:=by obtain⟨n,e⟩:=w.mn;rw[e];have big:(nmL++mkL).Nodup:=bK (by kernel_rfl);obtain⟨b1,b2,b3⟩:=bG.mp big;refine bG.mpr ⟨w.g.nd,b2.sublist (fD _ _),λa ha b hb=>b3 a ?_ b (cM hb)⟩;obtain⟨t,ht,rfl⟩:=az.mp ha;exact(w.g.nm t ht).2
theorem Wd.c2:pJ [MD' M]=some true:=by
 have l:=w.lm;refine(BA (ms:=M.map Mk'.g) (by rw[af];omega) (λ_=>true) λm hm=>?_).trans ?_
 ·obtain⟨k,hk,rfl⟩:=az.mp hm;exact w.mark k hk
 ·rw[qK λ_ _=>rfl,af,aH (by omega)];rfl
theorem Wd.c3:o7 [LD T,MD' M]=some true:=by
 have l:=w.lm;refine((BB w.g (ms:=M.map Mk'.g) (by rw[af];omega) (λ_=>true) λm hm=>?_).2 (qK λ_ _=>rfl) (M.map Mk'.n) ?_).trans (by rw[aH w.nd])
 ·obtain⟨k,hk,rfl⟩:=az.mp hm;exact w.name k hk
 ·rw[aY,aY];rfl
theorem Wd.c4:oO [.lst (dk.map D.str),rrD T]=some true:=by
 have ld:dk.length<=5:=by have h:=Bq w.dn (L:=rmL) λx hx=>w.g.rm x (w.di x hx).1;exact h
 refine((DB (ds:=dk.map D.str) (R:=rmN T) (by rw[af];omega) λd hd=>?_).2 (qK λd hd=>?_) dk rfl).trans (by rw[aH w.dn])
 ·obtain⟨x,_,rfl⟩:=az.mp hd;rfl
 ·obtain⟨x,hx,rfl⟩:=az.mp hd;exact aH (w.di x hx).1
theorem Wd.mks:pq [LD T,MD' M]=some ((mkN T M).map D.str):=by
 have l:=w.lm;have lt:=w.g.len;let ρ:List Sl:=[.im (LD T),.im (MD' M)];have h:=fq (λt:Tk=>t.k.mk) T;refine(Ae (ρ:=ρ) rfl (tH (qk (oU (uE tkD Tk.n (λt=>t.k.mk) T (ρ1:=ρ) rfl (by omega) λt _=>⟨[.im (tkD t)],[.im (tkD t)],rfl,uN (vN (xs:=[t.n,t.w,.str t.k.s,t.s]) (ys:=[]) rfl rfl rfl rfl (Dv t)),λ_=>⟨_,oi rfl (sE t),rfl⟩,λ_=>rfl⟩))
  (oU (sU mgD Mg.n (M.map Mk'.g) rfl (by rw[af];omega) λt _=>⟨_,_,rfl,oi rfl (DA t),rfl⟩)) (by rw[af,af,af];omega)))).trans ?_
 unfold mkN;rw[bg,Aw _ (λt ht=>(w.g.nm t ht).1),aY,aY,aY];rfl
theorem Wd.mkd:∀x∈mkN T M,x∈drN:=λx hx=>by
 rcases aN.mp hx with hx|hx
 ·obtain⟨t,ht,rfl⟩:=az.mp hx;obtain⟨h1,h2⟩:=bF.mp ht;have hp:t.k.pl=true:=(GU (P:=λk=>k.mk=true->k.pl=true) (λz=>by cases z) (λz=>by cases z) (λz=>by cases z) (λz=>by cases z) (λ_=>rfl) (λ_=>rfl)) t.k h2;obtain⟨q,hq,e⟩:=az.mp ((w.g.wd t h1).2 hp);refine bb _ (az.mpr ⟨q,hq,?_⟩);exact aM bq e
 ·obtain⟨m,hm,rfl⟩:=az.mp hx;exact ba _ (w.nmL' m hm)
theorem Wd.wb:∀v∈W,wB (.str v.r) (.str v.w) (.str v.g) (oS v.m) (rmN T) (mkN T M)=true/\isB (ox [.str v.w])=true:=λv hv=>by
 obtain⟨h1,h2,h3,h4⟩:=w.wo v hv;have hw:ox [.str v.w]=some (.bl true):=by simp only[aO,dy,or_false]at h2;rcases h2 with h|h<;>rw[h]<;>kernel_rfl
 refine⟨?_,by rw[hw];rfl⟩;unfold wB;rw[hw,show isIn (.str v.r) (rmN T)=true from aH h1,show isIn (.str v.g) (rmN T)=true from aH h3];cases e:v.m with
 |none=>rfl
 |some x=>rw[show isIn (oS (some x)) (mkN T M)=true from aH (h4 x e)];rfl
end
def isS:L4.D->Bool
 |.str _=>true
 |_=>false
theorem AB:∀{l:List L4.D},(∀d∈l,isS d=true)->l=(l.map nS).map D.str
 |[],_=>rfl
 |d::l,h=>by
  have h1:=h d aE;have ih:=AB λd hd=>h d (aG _ hd);rw[aF,aF,<- ih];cases d with
  |str x=>rfl
  |_=>cases h1
def mA(O:List Mg):Bool:=bZ O.length 2&&(O.all (λm=>isB (oW [mgD m]))&&(!O.all (λm=>isT (oW [mgD m]))||(O.all (λm=>isB (n4 [m.n]))&&(!O.all (λm=>isT (n4 [m.n]))||(O.all (λm=>isS m.n)&&(!decide (O.map λm=>nS m.n).Nodup||(O.any λm=>decide (nS m.n∈(["hall", "case", "candle", "me"]:List Str)))))))))
theorem Pu:mO.all mA=true:=by kernel_rfl
section
variable{T:List Tk}{M:List Mk'}{dk:List Str}{W:List Wy}(w:Wd T M dk W)
include w
theorem Pw{x:Str}(h:x∈(["hall", "case", "candle", "me"]:List Str)):x∈T.map Tk.m:=by
 simp only[aO,dy,or_false]at h;rcases h with rfl|rfl|rfl|rfl
 ·obtain⟨t,ht,e,_⟩:=w.g.hall;rw[<-e];exact aR ht
 ·obtain⟨t,ht,e,_⟩:=w.g.can;rw[<-e];exact aR ht
 ·obtain⟨t,ht,e,_⟩:=w.g.cdn;rw[<-e];exact aR ht
 ·obtain⟨t,ht,e,_⟩:=w.g.me;rw[<-e];exact aR ht
theorem Px(a:Nat){O:List Mg}(h:mA O=true)(K V:L4.D):nZ (pA (LD T) (.lst (((M.map Mk'.g).map mgD).take a++O.map mgD++((M.map Mk'.g).map mgD).drop a)) K V)=some false:=by
 let ms:List Mg:=(M.map Mk'.g).take a++O++(M.map Mk'.g).drop a;have e:((M.map Mk'.g).map mgD).take a++O.map mgD++((M.map Mk'.g).map mgD).drop a=ms.map mgD:=by show _=((M.map Mk'.g).take a++O++(M.map Mk'.g).drop a).map mgD;rw[bg,bg,fN,iH]
 rw[e];have lm:=w.lm;unfold mA at h;simp only[aB,dX,cq,decide_eq_false_iff_not]at h;obtain⟨h0,h1,h2⟩:=h;have h0:=bU h0;have lms:ms.length=M.length+O.length:=by show ((M.map Mk'.g).take a++O++(M.map Mk'.g).drop a).length=_;rw[aw,aw,bf,cu,af];omega
 have mem:∀m∈ms,(∃k∈M,m=k.g)\/m∈O:=λm hm=>by
  have q:m∈M.map Mk'.g->∃k∈M,m=k.g:=λh=>by obtain⟨k,hk,e⟩:=az.mp h;exact⟨k,hk,e.symm⟩
  rcases aN.mp hm with hm|hm
  ·rcases aN.mp hm with hm|hm
   ·exact .inl (q (cM hm))
   ·exact .inr hm
  ·exact .inl (q (eC hm))
 have mO':∀m∈O,m∈ms:=λm hm=>bb _ (ba _ hm);have mt:∀m∈ms,oW [mgD m]=some (.bl (isT (oW [mgD m]))):=λm hm=>by
  rcases mem m hm with ⟨k,hk,rfl⟩|hm
  ·rw[w.mark k hk];rfl
  ·exact As (aK.mp h1 m hm)
 have cm:=BA (ms:=ms) (by omega) (λm=>isT (oW [mgD m])) mt;rcases h2 with h2|⟨h3,h4⟩
 ·obtain⟨m,hm,em⟩:=Cp h2;exact cp1 (rt w.g) (cm.trans (by rw[Ar (mO' m hm) em,c6]))
 ·cases hb:(decide (ms.length<=4)&&ms.all λm=>isT (oW [mgD m]))with
  |false=>exact cp1 (rt w.g) (cm.trans (by rw[hb]))
  |true=>
   have nt:∀m∈ms,n4 [m.n]=some (.bl (isT (n4 [m.n]))):=λm hm=>by
    rcases mem m hm with ⟨k,hk,rfl⟩|hm
    ·rw[w.name k hk];rfl
    ·exact As (aK.mp h3 m hm)
   have cn:=BB w.g (ms:=ms) (by omega) (λm=>isT (n4 [m.n])) nt;refine cp2 (rt w.g) (cm.trans (by rw[hb])) ?_;rcases h4 with h4|⟨h5,h6⟩
   ·obtain⟨m,hm,em⟩:=Cp h4;exact cn.1 (Ar (mO' m hm) em)
   ·cases hn:ms.all λm=>isT (n4 [m.n])with
    |false=>exact cn.1 hn
    |true=>
     refine(cn.2 hn (ms.map λm=>nS m.n) ?_).trans ?_
     ·have:=AB (l:=ms.map Mg.n) λd hd=>by
       obtain⟨m,hm,rfl⟩:=az.mp hd;rcases mem m hm with ⟨k,hk,rfl⟩|hm
       ·rfl
       ·exact aK.mp h5 m hm
      refine this.trans ?_;rw[show (ms.map Mg.n).map nS=ms.map λm=>nS m.n from by rw[aY];rfl]
     ·rw[aQ];intro nd;obtain⟨d1,d2,d3⟩:=bG.mp nd;rcases h6 with h6|h6
      ·refine h6 (d2.sublist ?_);exact((gV _ _).trans (gW _ _)).map _
      ·obtain⟨m,hm,em⟩:=cv.mp h6;exact d3 _ (Pw w (bK em)) _ (aR (f:=λm:Mg=>nS m.n) (mO' m hm)) rfl
end
def dA(O:List L4.D):Bool:=bZ O.length 2&&(O.all sOk&&((O.any λd=>match d with|.str x=>decide (x∉rmL)|_=>true)||(O.all isS&&!decide (O.map nS).Nodup)))
theorem Py:dO.all dA=true:=by kernel_rfl
section
variable{T:List Tk}{M:List Mk'}{dk:List Str}{W:List Wy}(w:Wd T M dk W)
include w
theorem Pz(a:Nat){O:List L4.D}(h:dA O=true)(V:L4.D):nZ (pA (LD T) (MD' M) (.lst ((dk.map D.str).take a++O++(dk.map D.str).drop a)) V)=some false:=by
 let ds:List L4.D:=(dk.map D.str).take a++O++(dk.map D.str).drop a;unfold dA at h;simp only[aB,dX,cq,decide_eq_false_iff_not]at h;obtain⟨h0,h1,h2⟩:=h;have h0:=bU h0;have ld:dk.length<=5:=Bq w.dn (L:=rmL) λx hx=>w.g.rm x (w.di x hx).1;have lds:ds.length<=100:=by show ((dk.map D.str).take a++O++(dk.map D.str).drop a).length<=100;rw[aw,aw,bf,cu,af];omega
 have mem:∀d∈ds,(∃x∈dk,d=.str x)\/d∈O:=λd hm=>by
  have q:d∈dk.map D.str->∃k∈dk,d=.str k:=λh=>by obtain⟨k,hk,e⟩:=az.mp h;exact⟨k,hk,e.symm⟩
  rcases aN.mp hm with hm|hm
  ·rcases aN.mp hm with hm|hm
   ·exact .inl (q (cM hm))
   ·exact .inr hm
  ·exact .inl (q (eC hm))
 have mO':∀d∈O,d∈ds:=λm hm=>bb _ (ba _ hm);have de:=DB (ds:=ds) (R:=rmN T) lds λd hd=>by
  rcases mem d hd with ⟨x,_,rfl⟩|hd
  ·rfl
  ·exact aK.mp h1 d hd
 refine cp3 (rt w.g) w.c2 w.c3 ?_;rcases h2 with h2|⟨h3,h4⟩
 ·obtain⟨d,hd,e⟩:=cv.mp h2;refine de.1 (Ar (mO' d hd) ?_);cases d with
  |str x=>exact aQ λz=>bK e (w.g.rm x z)
  |_=>rfl
 ·cases hb:ds.all λd=>isIn d (rmN T)with
  |false=>exact de.1 hb
  |true=>
   refine(de.2 hb (ds.map nS) ?_).trans ?_
   ·exact AB λd hd=>by
     rcases mem d hd with ⟨x,_,rfl⟩|hd
     ·rfl
     ·exact aK.mp h3 d hd
   ·rw[aQ];intro nd;exact h4 (nd.sublist (((gV _ _).trans (gW _ _)).map _))
end
theorem NU:∀d∈nw5,∀R l:L4.D,pI [d,R,l]=some (.bl false):=λd hd R l=>by simp only[nw5,aO,dy,or_false]at hd;rcases hd with rfl|rfl|rfl|rfl|rfl<;>rfl
def qA(q:L4.D×L4.D×L4.D×L4.D):Bool:=sOk q.1&&(isB (ox [q.2.1])&&(sOk q.2.2.1&&(sOk q.2.2.2&&((match q.1 with|.str x=>decide (x∉rmL)|_=>true)||(!isT (ox [q.2.1])||((match q.2.2.1 with|.str x=>decide (x∉rmL)|_=>true)||(match q.2.2.2 with|.str x=>decide (x∉drN)|.non=>false|_=>true)))))))
theorem PB:qW.all qA=true:=by kernel_rfl
def wyA(v:Wy):Bool:=decide (v.r="hall")&&(decide (v.g="hall")&&(isT (ox [.str v.w])&&match v.m with|none=>true|some x=>decide (x="case")))
theorem Kq:(dW.all λO=>bZ O.length 2&&(O.all wyA&&!decide (O.map pk2).Nodup))=true:=by kernel_rfl
section
variable{T:List Tk}{M:List Mk'}{dk:List Str}{W:List Wy}(w:Wd T M dk W)
include w
theorem JM:("case" : Str)∈mkN T M:=by obtain⟨t,ht,e,h⟩:=w.g.can;rw[<-e];exact bb _ (aR (bF.mpr ⟨ht,h⟩))
theorem NV(a:Nat)(h:d∈nw5++qW.map qD):nZ (pA (LD T) (MD' M) (.lst (dk.map D.str)) (.lst ((W.map wyD).take a++[d]++(W.map wyD).drop a)))=some false:=by
 have lw:=w.wl;have hd:pI [d,rrD T,.lst ((mkN T M).map D.str)]=some (.bl false):=by
  rcases aN.mp h with h|h
  ·exact NU d h _ _
  ·obtain⟨⟨x,y,z,u⟩,hq,rfl⟩:=az.mp h;have q:=aK.mp PB _ hq;unfold qA at q;simp only[aB]at q;obtain⟨q1,q2,q3,q4,q5⟩:=q;refine(wG q1 q2 q3 q4).trans (aM (λb=>some (D.bl b)) ?_);have no:∀v:L4.D,(match v with|.str x=>decide (x∉rmL)|_=>true)=true->isIn v (rmN T)=false:=λv hv=>by
    cases v with
    |str x=>exact aQ λz=>bK hv (w.g.rm x z)
    |_=>rfl
   unfold wB;simp only[dX,cq]at q5;rcases q5 with q5|q5|q5|q5
   ·rw[no x q5,gn]
   ·rw[q5,gn,c6]
   ·rw[no z q5,gn,c6,c6]
   ·have:(Av u||isIn u (mkN T M))=false:=by
     cases u with
     |str x=>exact aQ λz=>bK q5 (w.mkd x z)
     |non=>cases q5
     |_=>rfl
    rw[this,c6,c6,c6]
 refine cp4 (rt w.g) w.c2 w.c3 w.c4 w.mks (JL (p:=λv=>isT (pI [v,rrD T,.lst ((mkN T M).map D.str)])) ?_ (λv hv=>?_) (Ar (a:=d) (bb _ (ba _ (aU.mpr rfl))) (by rw[hd];rfl)))
 ·rw[aw,aw,bf,cu,af,br];omega
 ·have good:v∈W.map wyD->pI [v,rrD T,.lst ((mkN T M).map D.str)]=some (.bl (isT (pI [v,rrD T,.lst ((mkN T M).map D.str)]))):=λh=>by
   obtain⟨u,hu,rfl⟩:=az.mp h;have so:sOk (oS u.m)=true:=by cases u.m<;>rfl
   have e:=(wG (a:=.str u.r) (b:=.str u.w) (c:=.str u.g) (m:=oS u.m) (R:=rmN T) (l:=mkN T M) rfl (w.wb u hu).2 rfl so);rw[show pI [wyD u,rrD T,.lst ((mkN T M).map D.str)]=_ from e];rfl
  rcases aN.mp hv with hv|hv
  ·rcases aN.mp hv with hv|hv
   ·exact good (cM hv)
   ·rw[aU.mp hv,hd];rfl
  ·exact good (eC hv)
theorem NW(a:Nat){O:List Wy}(h:O∈dW):nZ (pA (LD T) (MD' M) (.lst (dk.map D.str)) (.lst ((W.map wyD).take a++O.map wyD++(W.map wyD).drop a)))=some false:=by
 have lw:=w.wl;have q:=aK.mp Kq O h;simp only[aB,cq,decide_eq_false_iff_not]at q;obtain⟨q1,q2,q3⟩:=q;have q1:=bU q1;let ws:List Wy:=W.take a++O++W.drop a;have e:(W.map wyD).take a++O.map wyD++(W.map wyD).drop a=ws.map wyD:=by show _=(W.take a++O++W.drop a).map wyD;rw[bg,bg,fN,iH]
 rw[e];refine cp4 (rt w.g) w.c2 w.c3 w.c4 w.mks ((DC (W:=ws) ?_ λv hv=>?_).trans ?_)
 ·show (W.take a++O++W.drop a).length<=10;rw[aw,aw,bf,cu];omega
 ·have odd:v∈O->wB (.str v.r) (.str v.w) (.str v.g) (oS v.m) (rmN T) (mkN T M)=true/\isB (ox [.str v.w])=true:=λh=>by
   have z:=aK.mp q2 v h;unfold wyA at z;simp only[aB]at z;obtain⟨z1,z2,z3,z4⟩:=z;have z3':=Au z3;refine⟨?_,by rw[z3'];rfl⟩;unfold wB;rw[z3,show isIn (.str v.r) (rmN T)=true from aH (by rw[bK z1];exact AA w.g),show isIn (.str v.g) (rmN T)=true from aH (by rw[bK z2];exact AA w.g)];cases em:v.m with
   |none=>rfl
   |some x=>rw[em]at z4;rw[show isIn (oS (some x)) (mkN T M)=true from aH (by rw[bK z4];exact JM w)];rfl
  rcases aN.mp hv with hv|hv
  ·rcases aN.mp hv with hv|hv
   ·exact w.wb v (cM hv)
   ·exact odd hv
  ·exact w.wb v (eC hv)
 ·rw[aQ];intro nd;exact q3 (nd.sublist (((gV _ _).trans (gW _ _)).map _))
end
theorem DD{b:Bool}(h:e ρ=some (.bl b,ρ1)):yR e ρ=some (.bl !b,ρ1):=by unfold yR;rw[h]
def apB(l m:List Str):Bool:=!l.any λx=>decide (x∈m)
theorem yI{m:List Str}(hd:d=.lst (m.map D.str)\/d=.tup (m.map D.str))(hl:l.length<=900):oJ [.lst (l.map D.str),d]=some (.bl (apB l m)):=by
 let ρ:List Sl:=[.im (.lst (l.map D.str)),.im d];refine pd (ρ:=ρ) rfl ?_;have e:c1 ye (cL (nJ 1 [1] (iL (cV 0)) (gN 0) oh (c2 (dIn false) (cV 0) (cV 1)))) ρ=some (.bl (l.any λx=>decide (x∈m)),ρ):=Du D.str (λx=>decide (x∈m)) l rfl (by omega) λx hx=>⟨[.im (.str x),.im d],[.im (.str x),.im d],rfl,nW rfl rfl (by
  rcases hd with rfl|rfl
  ·rw[yk];rfl
  ·rw[Gm];rfl),rfl⟩
 exact qc (DD e)
def tw(t:Tk):List Str:=match t.w with
 |.tup ds=>ds.map nS
 |_=>[]
structure Vk where
 n:Str
 o:List Str
 f:Str
 j:Option Str
def vkD(v:Vk):L4.D:=.obj 2 ["name", "others", "form", "joining"] [.str v.n,.tup (v.o.map D.str),.str v.f,oS v.j]
def Vk.ws(v:Vk):List Str:=v.n::v.o
def k9:List Vk:=[⟨"take", [],"one", none⟩,⟨"drop", [],"one", none⟩,⟨"open", [],"one", none⟩,⟨"shut", [],"one", none⟩,⟨"light", [],"one", none⟩,⟨"douse", [],"one", none⟩,⟨"put", [],"two", some "in"⟩,⟨"go", [],"way", none⟩,⟨"wait", [],"alone", none⟩]
theorem PD:v9=k9.map vkD:=rfl
def nwL:List Str:=["the", "a", "undo", "restart"]
theorem yJ{a b c s5 s6 s7:Sl}:∀(P:List Tk) (acc:List Str) (s:Sl),acc.length+4 * P.length<=900->(∀t∈P,t.w=.tup ((tw t).map D.str)/\(tw t).length<=4)->
  ∃s':Sl,forL (gN 4) (pQ (uf 3 (c1 (nR oV "words") (cV 4)))) (P.map tkD) [a,b,c,.ls (acc.map D.str),s,s5,s6,s7]=some (.nx [a,b,c,.ls ((acc++P.flatMap tw).map D.str),s',s5,s6,s7])
 |[],acc,s,_,_=>⟨s,by simp;rfl⟩
 |t::P,acc,s,hl,hw=>by
  obtain⟨ew,h3⟩:=hw t aE;rw[aD]at hl;obtain⟨s',e⟩:=yJ P (acc++tw t) (.im (tkD t)) (by rw[aw];omega) (λu hu=>hw u (aG _ hu));refine⟨s',?_⟩;rw[aF];unfold forL;have e1:pQ (uf 3 (c1 (nR oV "words") (cV 4))) [a,b,c,.ls (acc.map D.str),.im (tkD t),s5,s6,s7]=some (.nx [a,b,c,.ls ((acc++tw t).map D.str),.im (tkD t),s5,s6,s7]):=by refine(uI (d:=.non) (ρ':=[a,b,c,.ls ((acc++tw t).map D.str),.im (tkD t),s5,s6,s7]) ?_);unfold uf;rw[show c1 (nR oV "words") (cV 4) [a,b,c,.ls (acc.map D.str),.im (tkD t),s5,s6,s7]=some (.tup ((tw t).map D.str),[a,b,c,.ls (acc.map D.str),.im (tkD t),s5,s6,s7]) from oi rfl ((xH t).trans (aM some ew))];show (if (acc.map D.str).length+((tw t).map D.str).length<=1000 then some (D.non,[a,b,c,.ls (acc.map D.str++(tw t).map D.str),.im (tkD t),s5,s6,s7])else none)=_;rw[ag (by rw[af,af];omega),bg]
  rw[show gN 4 (tkD t) [a,b,c,.ls (acc.map D.str),s,s5,s6,s7]=some [a,b,c,.ls (acc.map D.str),.im (tkD t),s5,s6,s7] from rfl];simp only[e1];rw[e,iq,bD]
theorem DE{a b c s3 s4 s7:Sl}:∀(V:List Vk) (acc:List Str) (s:Sl),acc.length+3 * V.length<=900->(∀v∈V,v.o.length<=2)->
  ∃s',forL (gN 6) (pQ (uf 5 (wR (om (a1 (c1 (nR nO "name") (cV 6)))) (c1 (nR qN "others") (cV 6))))) (V.map vkD) [a,b,c,s3,s4,.ls (acc.map D.str),s,s7]=some (.nx [a,b,c,s3,s4,.ls ((acc++V.flatMap Vk.ws).map D.str),s',s7])
 |[],acc,s,_,_=>⟨s,by simp;rfl⟩
 |v::V,acc,s,hl,hw=>by
  have h3:=hw v aE;rw[aD]at hl;have lw:v.ws.length<=3:=by unfold Vk.ws;rw[aD];omega
  obtain⟨s',e⟩:=DE (a:=a) (b:=b) (c:=c) (s3:=s3) (s4:=s4) (s7:=s7) V (acc++v.ws) (.im (vkD v)) (by rw[aw];omega) λu hu=>hw u (aG _ hu);refine⟨s',?_⟩;rw[aF];unfold forL;let ρ:List Sl:=[a,b,c,s3,s4,.ls (acc.map D.str),.im (vkD v),s7];have e0:wR (om (a1 (c1 (nR nO "name") (cV 6)))) (c1 (nR qN "others") (cV 6)) ρ=some (.tup (v.ws.map D.str),ρ):=by show (if ([]:List L4.D).length+(v.o.map D.str).length<=900 then some (D.tup (.str v.n::[]++v.o.map D.str),ρ)else none)=_;rw[ag (by rw[af];simp only[b8];omega)];rfl
  have e1:pQ (uf 5 (wR (om (a1 (c1 (nR nO "name") (cV 6)))) (c1 (nR qN "others") (cV 6)))) ρ=some (.nx [a,b,c,s3,s4,.ls ((acc++v.ws).map D.str),.im (vkD v),s7]):=by refine uI (d:=.non) ?_;unfold uf;rw[e0];show (if (acc.map D.str).length+(v.ws.map D.str).length<=1000 then some (D.non,[a,b,c,s3,s4,.ls (acc.map D.str++v.ws.map D.str),.im (vkD v),s7])else none)=_;rw[ag (by rw[af,af];omega),bg]
  rw[show gN 6 (vkD v) [a,b,c,s3,s4,.ls (acc.map D.str),s,s7]=some ρ from rfl];simp only[e1];rw[e,iq,bD]
def jsN(V:List Vk):List Str:=V.filterMap Vk.j
theorem PF(V:List Vk)(hl:V.length<=900)(h2:cV 2 ρ=some (.lst (V.map vkD),ρ)):nJ 1 [] (iL (cV 2)) (gN 0) (cT (c2 ze (c1 (nR pT "joining") (cV 0)) (cC D.non))) (c1 (nR pT "joining") (cV 0)) ρ=some ((jsN V).map D.str,ρ):=by
 have hs:iL (cV 2) ρ=some (V.map vkD,ρ):=by unfold iL;rw[h2]
 refine(uE (k:=1) (cap:=[]) (g:=gN 0) (ft:=cT (c2 ze (c1 (nR pT "joining") (cV 0)) (cC D.non))) (fe:=c1 (nR pT "joining") (cV 0)) vkD (λv=>oS v.j) (λv=>v.j.isSome) V hs (by omega) λv _=>⟨[.im (vkD v)],[.im (vkD v)],rfl,?_,λ_=>⟨[.im (vkD v)],rfl,rfl⟩,λ_=>rfl⟩).trans ?_
 ·obtain⟨n,o,f,j⟩:=v;cases j<;>rfl
 ·congr 2;unfold jsN;clear hs h2 hl
  induction V with
  |nil=>rfl
  |cons v V ih=>
   obtain⟨n,o,f,j⟩:=v;cases j with
   |none=>rw[List.filter_cons_of_neg (by simp),List.filterMap_cons_none rfl];exact ih
   |some x=>rw[List.filter_cons_of_pos (by simp)];exact aM (D.str x::·) ih
def PH(O U bt:List Str):Bool:=decide U.Nodup&&(apB (U++bt) O&&(apB (U++bt) nwL&&apB bt U))
theorem G0{W:List Wy}{V:List Vk}(hl:T.length<=20)(hw:∀t∈plN T,t.w=.tup ((tw t).map D.str)/\(tw t).length<=4)(hW:W.length<=20)(hV:V.length<=40)(ho:∀v∈V,v.o.length<=2):
  oG [LD T,.lst (W.map wyD),.lst (V.map vkD)]=some (PH ((plN T).flatMap tw) (V.flatMap Vk.ws) (jsN V++W.map Wy.w)):=by
 let P:=plN T;have hP:P.length<=20:=bw (fq _ _) hl;let A:Sl:=.im (LD T);let B:Sl:=.im (.lst (W.map wyD));let C:Sl:=.im (.lst (V.map vkD));obtain⟨s',e1⟩:=yJ (a:=A) (b:=B) (c:=C) (s5:=.un) (s6:=.un) (s7:=.un) P [] .un (by simp;omega) hw;let O:=P.flatMap tw;let U:=V.flatMap Vk.ws;let m1:Sl:=.ls (O.map D.str);obtain⟨z,e2⟩:=DE (a:=A) (b:=B) (c:=C) (s3:=m1) (s4:=s') (s7:=.un) V [] .un (by simp;omega) ho;let bt:List Str:=jsN V++W.map Wy.w;let Z:Sl:=.im (.lst (bt.map D.str));have lU:U.length<=120:=by
  have:∀V:List Vk,(∀v∈V,v.o.length<=2)->(V.flatMap Vk.ws).length<=3 * V.length:=by
   intro V
   induction V with
   |nil=>exact λ_=>aA _
   |cons v V ih=>intro h;have h1:=h v aE;have h2:=ih λu hu=>h u (aG _ hu);rw[iq,aw,aD];show (v.n::v.o).length+_<=_;rw[aD];omega
  have:=this V ho;show (V.flatMap Vk.ws).length<=120;omega
 have lJ:(jsN V).length<=40:=bw (List.length_filterMap_le _ _) hV;have lB:bt.length<=60:=by show (jsN V++W.map Wy.w).length<=60;rw[aw,af];omega
 have lUB:(U++bt).length<=900:=by rw[aw];omega
 let UL:L4.D:=.lst (U.map D.str);have hd:∀{o:Out},(nz (sXp nq (aCons (nv n8 (a1 (cFz 5))) (a1 (cS "two verbs' names are alike"))))
 (nz (sXp nq (aCons (nv oJ (aCons (cL (o4 (cFz 5) (cV 7))) (a1 (cFz 3)))) (a1 (cS "a verb's, way's or joining word is a word of a thing"))))
 (nz (sXp nq (aCons (nv oJ (aCons (cL (o4 (cFz 5) (cV 7))) (a1 (cC ph)))) (a1 (cS "the, a, undo or restart is a word of the world"))))
 (sXp nq (aCons (nv oJ (aCons (cV 7) (a1 (cFz 5)))) (a1 (cS "a way's or joining word is a verb's name"))))))) [A,B,C,m1,s',.ls (U.map D.str),z,Z]=some o->pz (stE 8 [LD T,.lst (W.map wyD),.lst (V.map vkD)])=some o:=λ{o} q=>by
  unfold pz;refine(ni (ρ':=[A,B,C,.ls [],.un,.un,.un,.un]) rfl).trans ?_;refine(ni (ρ':=[A,B,C,m1,s',.un,.un,.un]) (qa ((qZ (ds:=P.map tkD) (ρ1:=[A,B,C,.ls [],.un,.un,.un,.un]) ?_).trans e1))).trans ?_
  ·unfold iL;rw[oU (nL (g:=pj) (ds:=[LD T]) (ρ1:=[A,B,C,.ls [],.un,.un,.un,.un]) rfl (sF T (by omega)))]
  refine(ni (ρ':=[A,B,C,m1,s',.ls [],.un,.un]) rfl).trans ?_;refine(ni (ρ':=[A,B,C,m1,s',.ls (U.map D.str),z,.un]) (qa ((qZ (ds:=V.map vkD) (ρ1:=[A,B,C,m1,s',.ls [],.un,.un]) rfl).trans e2))).trans ?_;refine(ni (ρ':=[A,B,C,m1,s',.ls (U.map D.str),z,Z]) (qa ((ou (oU (qk (oU (PF V (by omega) rfl)) (oU (sU wyD (λw=>.str w.w) W (ρ1:=[A,B,C,m1,s',.ls (U.map D.str),z,.un]) rfl (by omega) λw _=>⟨[.im (wyD w)],[.im (wyD w)],rfl,rfl,rfl⟩)) (by rw[af,af];omega)))).trans ?_))).trans q;show some (Out.nx [A,B,C,m1,s',.ls (U.map D.str),z,.im (.lst ((jsN V).map D.str++W.map λw=>.str w.w))])=_;rw[show (jsN V).map D.str++(W.map λw=>D.str w.w)=bt.map D.str by show _=(jsN V++W.map Wy.w).map D.str;rw[bg,aY];rfl]
 have x1:nv n8 (a1 (cFz 5)) [A,B,C,m1,s',.ls (U.map D.str),z,Z]=some (.bl (decide U.Nodup),[A,B,C,m1,s',.im UL,z,Z]):=nL (ds:=[UL]) rfl (vt (by omega));have ca:∀(q:Sl),cL (o4 (cFz 5) (cV 7)) [A,B,C,q,s',.im UL,z,Z]=some (.lst ((U++bt).map D.str),[A,B,C,q,s',.im UL,z,Z]):=λq=>(oU (qk (xs:=U.map D.str) (ys:=bt.map D.str) (ρ1:=[A,B,C,q,s',.im UL,z,Z]) rfl rfl (by rw[af,af];omega))).trans (by rw[<-bg]);let OI:Sl:=.im (.lst (O.map D.str));have x2:nv oJ (aCons (cL (o4 (cFz 5) (cV 7))) (a1 (cFz 3))) [A,B,C,m1,s',.im UL,z,Z]=some (.bl (apB (U++bt) O),[A,B,C,OI,s',.im UL,z,Z]):=nL (nD (ca m1) (nD rfl rfl)) (yI (l:=U++bt) (m:=O) (.inl rfl) lUB);have x3:nv oJ (aCons (cL (o4 (cFz 5) (cV 7))) (a1 (cC ph))) [A,B,C,OI,s',.im UL,z,Z]=some (.bl (apB (U++bt) nwL),[A,B,C,OI,s',.im UL,z,Z]):=nL (nD (ca OI) (nD rfl rfl)) (yI (l:=U++bt) (m:=nwL) (.inr rfl) lUB);have x4:nv oJ (aCons (cV 7) (a1 (cFz 5))) [A,B,C,OI,s',.im UL,z,Z]=some (.bl (apB bt U),[A,B,C,OI,s',.im UL,z,Z]):=nL (nD rfl (nD rfl rfl)) (yI (l:=bt) (m:=U) (.inl rfl) (by omega));show _=some (decide U.Nodup&&(apB (U++bt) O&&(apB (U++bt) nwL&&apB bt U)));generalize decide U.Nodup=b1 at x1 ⊢;generalize apB (U++bt) O=b2 at x2 ⊢;generalize apB (U++bt) nwL=b3 at x3 ⊢;generalize apB bt U=b4 at x4 ⊢;cases b1 with
 |false=>exact uD rfl (hd (uC (sT x1)))
 |true=>
  cases b2 with
  |false=>exact uD rfl (hd ((ni (oH x1)).trans (uC (sT x2))))
  |true=>
   cases b3 with
   |false=>exact uD rfl (hd ((ni (oH x1)).trans ((ni (oH x2)).trans (uC (sT x3)))))
   |true=>
    cases b4 with
    |false=>exact uD rfl (hd ((ni (oH x1)).trans ((ni (oH x2)).trans ((ni (oH x3)).trans (sT x4)))))
    |true=>exact Aq rfl (hd ((ni (oH x1)).trans ((ni (oH x2)).trans ((ni (oH x3)).trans (oH x4)))))
def PJ:List Str:=pl6.flatMap dg
theorem G1(h:(t.m,t.w)∈plW):t.w=.tup ((tw t).map D.str)/\(tw t).length<=4/\∀x∈tw t,x∈PJ:=by
 obtain⟨q,hq,e⟩:=az.mp h;have e2:t.w=.tup (q.2.map D.str):=(aM dg e).symm;have e3:tw t=q.2:=by unfold tw;rw[e2];show (q.2.map D.str).map nS=q.2;rw[aY];exact fQ _
 rw[e3];exact⟨e2,bK (aK.mp (show (pl6.all λq=>decide (q.2.length<=4))=true by kernel_rfl) q hq),λx hx=>kc.mpr ⟨q,hq,hx⟩⟩
theorem Qf:(decide (k9.flatMap Vk.ws).Nodup&&(apB (k9.flatMap Vk.ws++(["in", "north", "up"]:List Str)) PJ&&(apB (k9.flatMap Vk.ws++(["in", "north", "up"]:List Str)) nwL&&apB (["in", "north", "up"]:List Str) (k9.flatMap Vk.ws))))=true:=by kernel_rfl
theorem AC{l' m m':List Str}(h:apB l' m'=true)(h1:∀x∈l,x∈l')(h2:∀x∈m,x∈m'):apB l m=true:=by unfold apB at h ⊢;rw[cq,fF]at h ⊢;intro z;obtain⟨x,hx,e⟩:=cv.mp z;exact h (cv.mpr ⟨x,h1 x hx,aH (h2 x (bK e))⟩)
section
variable{T:List Tk}{M:List Mk'}{dk:List Str}{W:List Wy}(w:Wd T M dk W)
include w
theorem Wd.voc:oG [LD T,.lst (W.map wyD),.lst v9]=some true:=by
 have lt:=w.g.len;have lw:=w.wl;have pm:∀t∈plN T,(t.m,t.w)∈plW:=λt ht=>(w.g.wd t (bF.mp ht).1).2 (bF.mp ht).2;rw[PD];refine(G0 (T:=T) (W:=W) (V:=k9) (by omega) (λt ht=>⟨(G1 (pm t ht)).1,(G1 (pm t ht)).2.1⟩) (by omega) (by decide) λv hv=>?_).trans (aM some ?_)
 ·exact bK (aK.mp (show (k9.all λv=>decide (v.o.length<=2))=true by rfl) v hv)
 ·have q:=Qf;simp only[aB]at q;obtain⟨q1,q2,q3,q4⟩:=q;have hb:∀x∈jsN k9++W.map Wy.w,x∈(["in", "north", "up"]:List Str):=λx hx=>by
   rcases aN.mp hx with hx|hx
   ·rw[show jsN k9=(["in"]:List Str) from rfl]at hx;rw[aU.mp hx];exact aE
   ·obtain⟨v,hv,rfl⟩:=az.mp hx;exact aG _ (w.wo v hv).2.1
  have hu:∀x∈k9.flatMap Vk.ws++(jsN k9++W.map Wy.w),x∈k9.flatMap Vk.ws++(["in", "north", "up"]:List Str):=λx hx=>by
   rcases aN.mp hx with hx|hx
   ·exact bb _ hx
   ·exact ba _ (hb x hx)
  unfold PH;rw[q1,AC q2 hu (λx hx=>by obtain⟨t,ht,h⟩:=kc.mp hx;exact(G1 (pm t ht)).2.2 x h),AC q3 hu (λx hx=>hx),AC q4 hb (λx hx=>hx)];rfl
theorem Wd.parts:nZ (pA (LD T) (MD' M) (.lst (dk.map D.str)) (.lst (W.map wyD)))=some true:=
 cp5 (rt w.g) w.c2 w.c3 w.c4 w.mks ((DC (by have:=w.wl;omega) w.wb).trans (by rw[aH w.wn])) w.voc
end
def atO(a b:Str):L4.D:=.obj 3 ["term", "place"] [.str a,.str b]
def mkO(a:Str)(v:Int):L4.D:=.obj 6 ["term", "value"] [.str a,.int v]
def woO(a:Str):L4.D:=.obj 8 ["word"] [.str a]
def noO(d:L4.D):L4.D:=.obj 9 ["inner"] [d]
def mvO(a b:Str):L4.D:=.obj 11 ["term", "place"] [.str a,.str b]
def gl:List Key->List (List L4.D)->Key->List L4.D
 |k::ks,ds::dss,j=>if k=j then ds else gl ks dss j
 |_,_,_=>[]
theorem G2{d:L4.D}{k j:Key}:∀(ks:List Key) (dss:List (List L4.D)),ks.length=dss.length->(k=j->k∈ks)->gl ks (ee (λk' ds=>if k'=k then ds++[d]else ds) ks dss) j=gl ks dss j++if k=j then [d]else []
 |[],[],_,hm=>by rw[ai λh=>(by cases hm h)];rfl
 |[],_::_,h,_=>by cases h
 |_::_,[],h,_=>by cases h
 |k0::ks,ds::dss,h,hm=>by
  rw[fo];unfold gl;by_cases e:k0=j
  ·subst e;rw[ag rfl,ag rfl];by_cases e2:k0=k
   ·rw[ag e2,ag e2.symm]
   ·rw[ai e2,ai λz=>e2 z.symm,bh]
  ·rw[ai e,ai e];exact G2 ks dss (by simpa using h) λz=>by
    rcases aO.mp (hm z)with y|y
    ·exact ak (y.symm.trans z) e
    ·exact y
theorem G3{d:L4.D}{k j:Key}:∀(ks:List Key) (dss:List (List L4.D)),ks.length=dss.length->k∉ks->gl (ks++[k]) (dss++[[d]]) j=gl ks dss j++if k=j then [d]else []
 |[],[],_,_=>rfl
 |[],_::_,h,_=>by cases h
 |_::_,[],h,_=>by cases h
 |k0::ks,ds::dss,h,hm=>by
  rw[iy,iy];unfold gl;by_cases e:k0=j
  ·rw[ag e,ag e,ai λz=>hm (by rw[z,e];exact aE),bh]
  ·rw[ai e,ai e];exact G3 ks dss (by simpa using h) λz=>hm (aG _ z)
theorem G4{d:L4.D}{k:Key}{P Q:List L4.D->Prop}(h1:∀ds,P ds->Q ds)(h2:∀ds,P ds->Q (ds++[d])):∀(ks:List Key) (dss:List (List L4.D)),(∀ds∈dss,P ds)->∀x∈ee (λk' ds=>if k'=k then ds++[d]else ds) ks dss,Q x
 |[],_,_,x,hx=>by cases hx
 |_::_,[],_,x,hx=>by cases hx
 |k0::ks,ds::dss,h,x,hx=>by
  rw[fo]at hx;rcases aO.mp hx with rfl|hx
  ·have:=h ds aE;split
   ·exact h2 _ this
   ·exact h1 _ this
  ·exact G4 h1 h2 ks dss (λds hd=>h ds (aG _ hd)) x hx
theorem yK{d:L4.D}(hd:noC 15 14 d=true):∀ds:List L4.D,rZ 15 14 ds=true->rZ 15 14 (ds++[d])=true
 |[],_=>by rw[b9];unfold rZ;rw[hd];rfl
 |x::ds,h=>by rw[iy];unfold rZ at h ⊢;rw[aB]at h ⊢;exact⟨h.1,yK hd ds h.2⟩
theorem yL:∀ds:List L4.D,(∀d∈ds,noC 15 14 d=true)->rZ 15 14 ds=true
 |[],_=>by unfold rZ;rfl
 |x::ds,h=>by unfold rZ;rw[aB];exact⟨h x aE,yL ds λd hd=>h d (aG _ hd)⟩
def kv(d:L4.D):Key:=match nR rN "verb" d with
 |some x=>(uO x).getD (.inl 0)
 |none=>.inl 0
def gK(d:L4.D):Bool:=(match nR rN "verb" d with
 |some x=>(uO x).isSome
 |none=>false)&&noC 15 14 d
theorem PK(h:gK d=true):∃x,nR rN "verb" d=some x/\uO x=some (kv d):=by
 unfold gK at h;rw[aB]at h;obtain⟨h,_⟩:=h;unfold kv;split at h
 ·rename_i x e;rw[e];cases e2:uO x with
  |none=>rw[e2]at h;cases h
  |some y=>exact⟨x,rfl,e2⟩
 ·cases h
theorem G5:∀(L:List L4.D) (ks:List Key) (dss:List (List L4.D)),(∀d∈L,gK d=true)->ks.length=dss.length->ks.length+L.length<1000->(∀ds∈dss,ds.length+L.length<1000/\rZ 15 14 ds=true)->
  ∃ks' dss',uh (nR rN "verb") L ks dss=some (ks',dss')/\(∀j,gl ks' dss' j=gl ks dss j++L.filter λd=>decide (kv d=j))/\∀ds∈dss',rZ 15 14 ds=true
 |[],ks,dss,_,_,_,h=>⟨ks,dss,rfl,λj=>by rw[List.filter_nil,bh],λds hd=>(h ds hd).2⟩
 |d::L,ks,dss,hg,hl,hk,h=>by
  rw[aD]at hk;have hL:∀ds∈dss,ds.length+L.length+1<1000/\rZ 15 14 ds=true:=λds hd=>⟨by have:=(h ds hd).1;rw[aD]at this;omega,(h ds hd).2⟩;have gd:=hg d aE;have nd:noC 15 14 d=true:=by unfold gK at gd;rw[aB]at gd;exact gd.2
  obtain⟨x,e1,e2⟩:=PK gd;have st:(tJ ks dss (kv d) d).1.length=(tJ ks dss (kv d) d).2.length/\(tJ ks dss (kv d) d).1.length+L.length<1000/\(∀ds∈(tJ ks dss (kv d) d).2,ds.length+L.length<1000/\rZ 15 14 ds=true)/\∀j,gl (tJ ks dss (kv d) d).1 (tJ ks dss (kv d) d).2 j=gl ks dss j++if kv d=j then [d]else []:=by
   unfold tJ;by_cases c:xw ks (kv d)=true
   ·rw[ag c];refine⟨by simp only[hU];omega,by simp only;omega,G4 (P:=λds=>ds.length+L.length+1<1000/\rZ 15 14 ds=true) (λds h=>⟨by omega,h.2⟩) (λds h=>⟨by rw[aw,br];omega,yK nd ds h.2⟩) ks dss hL,λj=>G2 ks dss hl λ_=>vM.mp c⟩
   ·rw[ai c];refine⟨by simp[hl],by simp only[aw,br];omega,λds hd=>?_,λj=>G3 ks dss hl λz=>c (vM.mpr z)⟩;rcases aN.mp hd with hd|hd
    ·exact⟨by have:=(hL ds hd).1;omega,(hL ds hd).2⟩
    ·rw[aU.mp hd];exact⟨by simp only[br];omega,yK nd [] (by unfold rZ;rfl)⟩
  obtain⟨s1,s2,s3,s4⟩:=st;obtain⟨ks',dss',q1,q2,q3⟩:=G5 L (tJ ks dss (kv d) d).1 (tJ ks dss (kv d) d).2 (λx hx=>hg x (aG _ hx)) s1 s2 s3;refine⟨ks',dss',?_,λj=>?_,q3⟩
  ·unfold uh;simp only[e1,e2];rw[ag]
   ·exact q1
   ·rw[aB];refine⟨aH (by omega),aK.mpr λds hd=>aH (by have:=(hL ds hd).1;omega)⟩
  ·rw[q2 j,s4 j,gj,bD];by_cases c:kv d=j
   ·simp[c]
   ·simp[c]
def ruN:List Str:=["verb", "tests", "deeds", "text", "refuses"]
def ruO(v:Str)(ts ds:List L4.D)(tx:Str)(rf:Bool):L4.D:=.obj 13 ruN [.str v,.lst ts,.lst ds,.str tx,.bl rf]
def wtL(w:Wy):List L4.D:=[atO "me" w.r,woO w.w]++match w.m with|none=>[]|some m=>[noO (mkO m 0)]
def goO(w:Wy):L4.D:=ruO "go" (wtL w) [mvO "me" w.g] "You go." false
def A21:List L4.D:=(tO [.str "me"]).getD []++(uu []).getD []++(uv []).getD []++(sy []).getD []
def SH(W:List Wy):List L4.D:=A21++(W.map goO++[ruO "go" [] [] "No way there." true])++[ruO "wait" [] [] "Time goes by." false]
theorem PL(w:Wy):uw [.str "me", wyD w]=some (wtL w):=by obtain⟨r,x,g,m⟩:=w;cases m<;>kernel_rfl
theorem JN(w:Wy):rS [.str "go", .lst (wtL w),.lst [mvO "me" w.g],.str "You go."]=some (goO w):=by kernel_rfl
theorem PM(W:List Wy)(hl:W.length<=8):vp [.str "me", .lst (W.map wyD)]=some (W.map goO++[ruO "go" [] [] "No way there." true]):=by
 let ρ:List Sl:=[.im (.str "me"),.im (.lst (W.map wyD)),.un];let σ:List Sl:=[.im (.str "me"),.im (.lst (W.map wyD)),.im (.lst (W.map goO))];refine Ae (ρ:=σ) rfl ?_;unfold vo;refine(ni (ρ':=σ) ((ou (oU (sU wyD goO W (ρ1:=ρ) rfl (by omega) λw _=>⟨[.im (wyD w),.im (.str "me")],[.im (wyD w),.im (.str "me")],rfl,?_,rfl⟩))).trans rfl)).trans ?_
 ·exact nL (ds:=[.str "go", .lst (wtL w),.lst [mvO "me" w.g],.str "You go."]) (nD rfl (nD (oU (nL (ds:=[.str "me", wyD w]) rfl (PL w))) (nD rfl (nD rfl rfl)))) (JN w)
 ·exact tH (qk (xs:=W.map goO) (ys:=[ruO "go" [] [] "No way there." true]) (ρ1:=σ) rfl (by kernel_rfl) (by rw[af];show W.length+1<=1000;omega))
theorem DF:A21.length<=50:=bU (by kernel_rfl)
theorem NX{W:List Wy}(hl:W.length<=8):(SH W).length<=100:=by have:=DF;unfold SH;rw[aw,aw,aw,af];show A21.length+(W.length+1)+1<=100;omega
theorem EK(W:List Wy)(hl:W.length<=8):rT [.str "me", .lst (W.map wyD)]=some (SH W):=by
 have:=DF;let ρ:List Sl:=[.im (.str "me"),.im (.lst (W.map wyD))];refine Ae (ρ:=ρ) rfl (tH (qk (xs:=A21++(W.map goO++[ruO "go" [] [] "No way there." true])) (ys:=[ruO "wait" [] [] "Time goes by." false]) (ρ1:=ρ) (oU (qk (xs:=A21) (ρ1:=ρ) (by kernel_rfl) (oU (nL (ds:=[.str "me", .lst (W.map wyD)]) rfl (PM W hl))) ?_)) (by kernel_rfl) ?_))
 ·rw[aw,af];show A21.length+(W.length+1)<=1000;omega
 ·rw[aw,aw,af];show A21.length+(W.length+1)+1<=1000;omega
theorem Kr(W:List Wy):∀d∈SH W,gK d=true:=λd hd=>by
 unfold SH at hd;rcases aN.mp hd with hd|hd
 ·rcases aN.mp hd with hd|hd
  ·exact aK.mp (show A21.all gK=true by kernel_rfl) d hd
  ·rcases aN.mp hd with hd|hd
   ·obtain⟨w,_,rfl⟩:=az.mp hd;obtain⟨r,x,g,m⟩:=w;cases m<;>kernel_rfl
   ·rw[aU.mp hd];kernel_rfl
 ·rw[aU.mp hd];kernel_rfl
theorem NY(h:gK d=true):noC 15 14 d=true:=by unfold gK at h;rw[aB]at h;exact h.2
theorem Cq(hl:T.length<=900)(hn:∀t∈T,t.n=.str t.m)(nd:(T.map Tk.m).Nodup):wC [LD T]=some (.dic (nK T) (T.map tkD)):=by
 obtain⟨s',e1⟩:=uJ (g:=gN 2) (i:=1) (fk:=c1 (nR nO "name") (cV 2)) (fv:=cV 2) tkD Tk.m tkD (λks ds s=>[.im (LD T),.dk ks ds,s]) T
  (λt ht ks ds s=>⟨[.im (LD T),.dk ks ds,.im (tkD t)],rfl,rfl,rfl,oi rfl ((sE t).trans (by rw[hn t ht])),λks' ds'=>⟨_,rfl⟩⟩) T [] [] .un (λ_ h=>h) (by rw[b9];exact Dw nd) (by simp;omega) rfl
 refine pd (ρ:=[.im (LD T),.im (.dic (nK T) (T.map tkD)),s']) rfl ?_;unfold wz;refine(ni (ρ':=[.im (LD T),.dk [] [],.un]) rfl).trans ?_;refine(ni ((qZ rfl).trans e1)).trans ?_;rw[b9,b9];rfl
theorem wH{a b e:Sl}:∀(l:List Tk) (ks:List Key) (ds:List L4.D) (s:Sl),(∀t∈l,t.n=.str t.m)->(ks++l.map λt=>kS t.m).Nodup->ks.length+l.length<=900->ds.length=ks.length->
  ∃(ks':List Key) (ds':List L4.D) (s':Sl),(∀k∈ks',k∈ks++l.map λt=>kS t.m)/\ks'.Nodup/\ks'.length<=ks.length+l.length/\ds'.length=ks'.length/\forL (gN 3) (sIf (cT (qo pb "has_mark" (cV 3) n6)) (q8 2 (c1 (nR nO "name") (cV 3)) (cC (.int 1))) oY) (l.map tkD) [a,b,.dk ks ds,s,e]=some (.nx [a,b,.dk ks' ds',s',e])
 |[],ks,ds,s,_,nd,_,he=>⟨ks,ds,s,λk h=>bb _ h,(bG.mp nd).1,aA _,he,rfl⟩
 |t::l,ks,ds,s,hn,nd,hl,he=>by
  rw[aD]at hl;let ρ:List Sl:=[a,b,.dk ks ds,.im (tkD t),e];have em:cT (qo pb "has_mark" (cV 3) n6) ρ=some (t.k.mk,ρ):=uN (vN (xs:=[t.n,t.w,.str t.k.s,t.s]) (ys:=[]) rfl rfl rfl rfl (Dv t));have hn':∀u∈l,u.n=.str u.m:=λu hu=>hn u (aG _ hu);rw[aF]at nd;have nd1:((ks++[kS t.m])++l.map λt=>kS t.m).Nodup:=by rw[bD];exact nd
  have nd2:(ks++l.map λt=>kS t.m).Nodup:=nd.sublist ((j3 _).append (List.sublist_cons_self _ _));rw[aF,aF];unfold forL;rw[show gN 3 (tkD t) [a,b,.dk ks ds,s,e]=some ρ from rfl];cases hm:t.k.mk with
  |true=>
   rw[hm]at em;have hk:kS t.m∉ks:=λz=>by rw[bG]at nd;exact nd.2.2 _ z _ aE rfl
   obtain⟨ks',ds',s',h1,h0,h2,h3,q⟩:=wH (a:=a) (b:=b) (e:=e) l (ks++[kS t.m]) (ds++[.int 1]) (.im (tkD t)) hn' nd1 (by rw[aw,br];omega) (by simp[he]);rw[aw,br]at h2;refine⟨ks',ds',s',λk h=>?_,h0,by rw[aD];omega,h3,?_⟩
   ·have:=h1 k h;rw[bD]at this;exact this
   simp only[(se em).trans (Bv (i:=2) (fk:=c1 (nR nO "name") (cV 3)) (fv:=cC (.int 1)) (ρ:=ρ) (x:=t.m) rfl rfl (oi rfl ((sE t).trans (by rw[hn t aE]))) hk (by omega) he)];exact q
  |false=>
   rw[hm]at em;obtain⟨ks',ds',s',h1,h0,h2,h3,q⟩:=wH (a:=a) (b:=b) (e:=e) l ks ds (.im (tkD t)) hn' nd2 (by omega) he;refine⟨ks',ds',s',λk h=>?_,h0,by rw[aD];omega,h3,?_⟩
   ·rcases aN.mp (h1 k h)with z|z
    ·exact bb _ z
    ·exact ba _ (aG _ z)
   simp only[qQ em,oY];exact q
variable{ns:List Str}
theorem G6{r:List Sl}{r':List Sl}(h1:e (.im (.obj 14 ns ds)::r.map tI)=some (d,r'))(h2:noC 15 14 d=true):uS 15 e (.ob 14 ns ds::r)=some (d,.ob 14 ns ds::r):=by unfold uS;simp only[h1,h2];rfl
theorem BD{nm:Str}{r:List Sl}(h1:e (.ob 14 ns ds::r)=some (d,.ob 14 ns ds::r))(h2:ns.contains nm=false)(h3:ds.length=ns.length)(h4:ns.length<900):oa 14 0 nm e (.ob 14 ns ds::r)=some (.nx (.ob 14 (ns++[nm]) (ds++[d])::r)):=by unfold oa;rw[h1];simp only[jh,h2,h3,h4,if_true,fA,if_false];rfl
def wNs:List Str:=["kept_things", "kept_marks", "kept_dark", "kept_ways", "kept_verbs", "shared_verbs", "your_name", "things_by_name", "mosts_by_name", "verbs_by_word", "kept_rules", "shared_rules", "copied_rules", "rules_by_verb"]
theorem JO(m:Mk'):nR rM "most" (mgD m.g)=some (.int m.mo):=rfl
section
variable{T:List Tk}{M:List Mk'}{dk:List Str}{W:List Wy}(w:Wd T M dk W)
include w
theorem Wd.mosts:∃d,rb [LD T,MD' M]=some d:=by
 have lt:=w.g.len;have lm:=w.lm;obtain⟨n1,n2,n3⟩:=bG.mp w.nd;obtain⟨ks,ds,s1,h1,h0,h2,h3,e1⟩:=wH (a:=.im (LD T)) (b:=.im (MD' M)) (e:=.un) T [] [] .un (λt h=>(w.g.nm t h).1) (by rw[b9];exact Dw n1) (by simp;omega) rfl;rw[b8]at h2;have nd:(ks++M.map λm=>kS m.n).Nodup:=by
  refine bG.mpr ⟨?_,?_,λa ha b hb e=>?_⟩
  ·exact h0
  ·have:=wu n2;rw[aY]at this;exact this
  ·have:=h1 a ha;rw[b9]at this;obtain⟨t,ht,e1⟩:=az.mp this;obtain⟨m,hm,e2⟩:=az.mp hb;exact n3 _ (aR ht) _ (aR hm) (NN (e1.trans (e.trans e2.symm)))
 obtain⟨s2,e2⟩:=uJ (g:=gN 4) (i:=2) (fk:=c1 (nR nO "name") (cV 4)) (fv:=c1 (nR rM "most") (cV 4)) (λm:Mk'=>mgD m.g) Mk'.n (λm=>.int m.mo) (λks ds s=>[.im (LD T),.im (MD' M),.dk ks ds,s1,s]) M
  (λm _ ks ds s=>⟨[.im (LD T),.im (MD' M),.dk ks ds,s1,.im (mgD m.g)],rfl,oi rfl (JO m),rfl,rfl,λks' ds'=>⟨_,rfl⟩⟩) M ks ds .un (λ_ h=>h) nd (by omega) h3
 refine⟨.dic (ks++M.map λa=>kS a.n) (ds++M.map λm=>.int m.mo),pd (ρ:=[.im (LD T),.im (MD' M),.im (.dic (ks++M.map λa=>kS a.n) (ds++M.map λm=>.int m.mo)),s1,s2]) rfl ?_⟩;unfold ra;refine(ni (ρ':=[.im (LD T),.im (MD' M),.dk [] [],.un,.un]) rfl).trans ?_;refine(ni ((qZ rfl).trans e1)).trans ?_;refine(ni ((qZ (ds:=M.map λm=>mgD m.g) (ρ1:=[.im (LD T),.im (MD' M),.dk ks ds,s1,.un]) ?_).trans e2)).trans rfl;show some ((M.map Mk'.g).map mgD,_)=_;rw[aY];rfl
theorem Wd.of_me(ns:List Str)(rest:List L4.D):rh [.obj 14 ("kept_things" ::ns) (LD T::rest),.str "you"]=some (.lst [.str "me"]):=by let ρ:List Sl:=[.im (.obj 14 ("kept_things" ::ns) (LD T::rest)),.im (.str Kd.you.s)];have y:=w.g.y1;unfold cK at y;obtain⟨t,et⟩:=List.length_eq_one_iff.mp y;obtain⟨u,hu,e1,e2⟩:=w.g.me;have ut:u=t:=aU.mp (by rw[<-et];exact bF.mpr ⟨hu,aH e2⟩);refine(Gs (ρ:=ρ) rfl (tH (uE tkD Tk.n (λt=>decide (t.k=.you)) T (ρ1:=ρ) rfl (by have:=w.g.len;omega) λt _=>⟨[.im (tkD t),.im (.str Kd.you.s)],[.im (tkD t),.im (.str Kd.you.s)],rfl,uN (nW (oi rfl (wD t)) rfl (zA t.k .you)),λ_=>⟨_,oi rfl (sE t),rfl⟩,λ_=>rfl⟩))).trans ?_;rw[et,<- ut];show some (D.lst [u.n])=_;rw[(w.g.nm u hu).1,e1]
end
def vwD:L4.D:=(rg [.lst v9]).getD .non
def wA(T:List Tk)(M:List Mk')(dk:List Str)(W:List Wy)(d8 d9 c:L4.D):List L4.D:=[LD T,MD' M,.lst (dk.map D.str),.lst (W.map wyD),.lst [],.lst v9,.str "me", d8,d9,vwD,.lst [],.lst (SH W),.lst [],c]
def wS(T:List Tk)(M:List Mk')(dk:List Str)(W:List Wy)(d8 d9 c:L4.D)(q:Sl)(k:Nat):List Sl:=[.ob 14 (wNs.take k) ((wA T M dk W d8 d9 c).take k),.im (LD T),.im (MD' M),.im (.lst (dk.map D.str)),.im (.lst (W.map wyD)),.im (.lst []),.im (.lst []),q]
section
variable{T:List Tk}{M:List Mk'}{dk:List Str}{W:List Wy}(w:Wd T M dk W)
include w
theorem Wd.world:∃q,pC [LD T,MD' M,.lst (dk.map D.str),.lst (W.map wyD),.lst [],.lst []]=some (some q):=by
 have hs:=NX w.wl;have hl:=w.g.len;obtain⟨ks,dss,g1,g2,g3⟩:=G5 (SH W) [] [] (Kr W) rfl (by simp only[b8];omega) λds h=>(by cases h);let c:L4.D:=.dic ks (dss.map .lst);let B:Sl:=.im (.bl true);have nc:noC 15 14 c=true:=by show rZ 15 14 (dss.map .lst)=true;exact yL _ λd hd=>by obtain⟨ds,h,rfl⟩:=az.mp hd;exact g3 ds h
 obtain⟨d9,e9⟩:=w.mosts;have e8:=Cq (T:=T) (by omega) (λt h=>(w.g.nm t h).1) w.g.nd;generalize ed8:D.dic (nK T) (T.map tkD)=d8 at e8;let S:=wS T M dk W d8 d9 c;have e:pB (S .un 0)=some (.nx (S B 14)):=by
  unfold pB;refine(ni (ρ':=S .un 0) (vZ (ds:=pA (LD T) (MD' M) (.lst (dk.map D.str)) (.lst (W.map wyD))) (nD rfl (nD rfl (nD rfl (nD rfl (nD rfl (nD (oU (nL (ds:=[]) rfl Kn)) rfl)))))) w.parts)).trans ?_;refine(ni (ρ':=S .un 1) (by kernel_rfl)).trans ((ni (ρ':=S .un 2) (by kernel_rfl)).trans ((ni (ρ':=S .un 3) (by kernel_rfl)).trans ((ni (ρ':=S .un 4) (by kernel_rfl)).trans ((ni (ρ':=S .un 5) (by kernel_rfl)).trans ((ni (ρ':=S .un 6) (by kernel_rfl)).trans ?_)))));refine(ni (ρ':=S .un 7) (qa (BD (ns:=wNs.take 6) (ds:=(wA T M dk W d8 d9 c).take 6) (r:=(S .un 6).tail) (G6 (d:=.str "me") (r':=(.im (.obj 14 (wNs.take 6) ((wA T M dk W d8 d9 c).take 6)))::((S .un 6).tail).map tI) (nW (x:=.lst [.str "me"]) (vN (xs:=(wA T M dk W d8 d9 c).take 6) (ys:=[.str "you"]) (hh:=rh) rfl rfl rfl rfl (w.of_me _ _)) rfl rfl) rfl) rfl rfl (by decide)))).trans ?_;refine(ni (ρ':=S .un 8) (qa (BD (r:=(S .un 7).tail) (nL (ds:=[LD T]) rfl e8) rfl rfl (by decide)))).trans ?_;refine(ni (ρ':=S .un 9) (qa (BD (r:=(S .un 8).tail) (nL (ds:=[LD T,MD' M]) rfl e9) rfl rfl (by decide)))).trans ?_;refine(ni (ρ':=S .un 10) (by kernel_rfl)).trans ?_;refine(ni (ρ':=S B 10) (by kernel_rfl)).trans ((ni (ρ':=S B 10) (by kernel_rfl)).trans ((ni (ρ':=S B 11) (by kernel_rfl)).trans ?_));refine(ni (ρ':=S B 12) (qa (BD (r:=(S B 11).tail) (G6 (d:=.lst (SH W)) (r':=(.im (.obj 14 (wNs.take 11) ((wA T M dk W d8 d9 c).take 11)))::((S B 11).tail).map tI) (oU (nL (ds:=[.str "me", .lst (W.map wyD)]) rfl (EK W w.wl))) (yL _ λd hd=>NY (Kr W d hd))) rfl rfl (by decide)))).trans ?_;refine(ni (ρ':=S B 13) (by kernel_rfl)).trans ?_;refine qa (BD (ns:=wNs.take 13) (ds:=(wA T M dk W d8 d9 c).take 13) (r:=(S B 13).tail) (G6 (nL (ds:=[.lst (SH W)]) (nD (oU (qk (xs:=[]) (ys:=SH W) rfl rfl (by simp only[b8];omega))) rfl) (r:=c) ?_) nc) rfl rfl (by decide));refine pd (ρ:=[.im (.lst (SH W)),.un,.un]) rfl ?_;show (match uh (nR rN "verb") (SH W) [] []with
   |some (ks,dss)=>some (Out.rt (.dic ks (dss.map .lst)) [.im (.lst (SH W)),.un,.un])
   |none=>none)=_
  rw[g1]
 have e':pB (stI 14 8 [LD T,MD' M,.lst (dk.map D.str),.lst (W.map wyD),.lst [],.lst []])=some (.nx (S B 14)):=e;refine⟨(wNs,wA T M dk W d8 d9 c),?_⟩;unfold pC fnXI;rw[ag (show [LD T,MD' M,.lst (dk.map D.str),.lst (W.map wyD),.lst [],.lst []].length=6 from rfl),e'];dsimp only;unfold fnI;rw[ag (show [LD T,MD' M,.lst (dk.map D.str),.lst (W.map wyD),.lst [],.lst []].length=6 from rfl),e'];rfl
theorem Wd.by_:oj [LD T,MD' M,.lst (dk.map D.str),.lst (W.map wyD)]=some (.bl false):=by obtain⟨q,e⟩:=w.world;exact NQ e
end
variable{es':List L4.D}
theorem NZ{np n:Nat}{f:FS}(h:ds.length=np)(e:f (stL n es ds)=some (.rt d ρ))(hp:Ce np ρ=some es'):fnL np n f es ds=some (d,es'):=by unfold fnL;rw[ag h,e];simp only[hp]
theorem JP{g:List L4.D->List L4.D->Option (L4.D×List L4.D)}{a:FA}(h1:a ρ=some (ds,ρ1))(h2:oM ρ1 i=some es)(h3:g es ds=some (d,es')):yh g i a ρ=some (d,putAt ρ1 i es'):=by unfold yh;rw[h1];simp only[h2,h3]
variable{ft:FT}{fe:FE}{xs:List L4.D}{ρ' ρ'':List Sl}
theorem DG{k:Nat}{cap:List Nat}{g:FG}{x:L4.D}{l:List L4.D}(h1:g d (vH k cap ρ)=some ρ1)(h2:ft ρ1=some (true,ρ2))(h3:fe ρ2=some (x,ρ3))(h4:qq cap (ρ3.drop k) ρ=some ρ')(h5:qz k cap g ft fe l ρ'=some (xs,ρ'')):qz k cap g ft fe (d::l) ρ=some (x::xs,ρ''):=by unfold qz;simp only[h1,h2,h3,h4,h5]
theorem DH{k:Nat}{cap:List Nat}{g:FG}{l:List L4.D}(h1:g d (vH k cap ρ)=some ρ1)(h2:ft ρ1=some (false,ρ2))(h4:qq cap (ρ2.drop k) ρ=some ρ')(h5:qz k cap g ft fe l ρ'=some (xs,ρ'')):qz k cap g ft fe (d::l) ρ=some (xs,ρ''):=by unfold qz;simp only[h1,h2,h4,h5]
theorem yM(a:Sl)(rest:List Sl):∀(l:List Str) (es:List L4.D),rY es->∃(M:List Mk') (es':List L4.D),M.map Mk'.n=l/\(∀m∈M,m.mo=1\/m.mo=2\/m.mo=3)/\rY es'/\
  qz 1 [1] (gN 0) oh (nU 1 (λds=>oo (ds++[])) (aCons (cV 0) (aCons (cC (.int 1)) (a1 (c2 qd (cC (.int 1)) (p7 nF 1 (a1 (cC (.int 3))))))))) (l.map D.str) (a::.pm es::rest)=some ((M.map Mk'.g).map mgD,a::.pm es'::rest)
 |[],es,h=>⟨[],es,rfl,λm hm=>(by cases hm),h,rfl⟩
 |x::l,es,h=>by
  obtain⟨d,e1,x1,p0,p1,h1⟩:=dgx (i:=1) (b:=3) (a:=cC (.int 3)) (λes=>[.im (.str x),.pm es]) (λ_=>rfl) (λ_ _=>rfl) rfl h (by decide) (by decide);obtain⟨M,e2,en,mo,h2,x2⟩:=yM a rest l e1 h1;refine⟨⟨x,1+d⟩::M,e2,by rw[aF,en],λm hm=>?_,h2,?_⟩
  ·rcases aO.mp hm with rfl|hm
   ·show 1+d=1\/1+d=2\/1+d=3;omega
   ·exact mo m hm
  ·rw[aF];exact DG (ρ1:=[.im (.str x),.pm es]) (ρ2:=[.im (.str x),.pm es]) rfl rfl (Aj (ds:=[.str x,.int 1,.int (1+d)]) (ns:=["name", "start", "most"]) (xs:=[.str x,.int 1,.int (1+d)]) (nD rfl (nD rfl (nD (nW (x:=.int 1) (y:=.int d) rfl x1 rfl) rfl))) rfl) rfl x2
theorem wI(a:Sl)(rest:List Sl):∀(l:List Str) (es:List L4.D),rY es->∃(dk:List Str) (es':List L4.D),dk.Sublist l/\(∀x∈dk,x≠"hall")/\rY es'/\
  qz 1 [1] (gN 0) (vC (cT (c2 (dEq true) (cV 0) (cS "hall"))) (cT (c2 (dEq false) (p7 nF 1 (a1 (cC (.int 2)))) (cC (.int 1))))) (cV 0) (l.map D.str) (a::.pm es::rest)=some (dk.map D.str,a::.pm es'::rest)
 |[],es,h=>⟨[],es,.slnil,λx hx=>(by cases hx),h,rfl⟩
 |x::l,es,h=>by
  have e0:cT (c2 (dEq true) (cV 0) (cS "hall")) [.im (.str x),.pm es]=some (!decide (x="hall"),[.im (.str x),.pm es]):=uN (nW (x:=.str x) (y:=.str "hall") rfl rfl (Di true x "hall"));rw[aF];by_cases c:x="hall"
  ·rw[aH c]at e0;obtain⟨dk,e2,sl,nh,h2,x2⟩:=wI a rest l es h;refine⟨dk,e2,sl.cons x,nh,h2,DH (ρ1:=[.im (.str x),.pm es]) (ρ2:=[.im (.str x),.pm es]) rfl ?_ rfl x2⟩;unfold vC;rw[e0];rfl
  ·rw[aQ c]at e0;obtain⟨d,e1,x1,p0,p1,h1⟩:=dgx (i:=1) (b:=2) (a:=cC (.int 2)) (λes=>[.im (.str x),.pm es]) (λ_=>rfl) (λ_ _=>rfl) rfl h (by decide) (by decide);obtain⟨dk,e2,sl,nh,h2,x2⟩:=wI a rest l e1 h1;have et:vC (cT (c2 (dEq true) (cV 0) (cS "hall"))) (cT (c2 (dEq false) (p7 nF 1 (a1 (cC (.int 2)))) (cC (.int 1)))) [.im (.str x),.pm es]=some (decide (d=1),[.im (.str x),.pm e1]):=by unfold vC;rw[e0];exact uN (nW (x:=.int d) (y:=.int 1) x1 rfl (xE false d 1))
   by_cases c':d=1
   ·rw[aH c']at et;exact⟨x::dk,e2,sl.cons_cons x,λy hy=>(aO.mp hy).elim (λe=>e▸c) (nh y),h2,DG rfl et rfl rfl x2⟩
   ·rw[aQ c']at et;exact⟨dk,e2,sl.cons x,nh,h2,DH rfl et rfl x2⟩
structure G7(T:List Tk)(M:List Mk')(W:List Wy):Prop where
 wl:W.length<=8
 wo:∀w∈W,w.r∈rmN T/\w.w∈(["north", "up"]:List Str)/\w.g∈rmN T/\∀x,w.m=some x->x∈mkN T M
 wn:(W.map pk2).Nodup
def iB:FS:=(nz (ot 9 (c2 dIx (cV 2) (p7 nF 1 (a1 (c1 oR (cV 2))))))
 (sIf (rp (cT (c2 A9 (c1 oR (cV 6)) (cC (.int 8))))) (pQ (uM 6 (om (aCons (cV 7) (aCons (cV 8) (aCons (cV 9) (a1 (c2 dIx (cV 5) (p7 nF 1 (a1 (c1 oR (cV 5)))))))))))) oY))
def oB:FS:=(sI (iL (cL (vc (cL (nP (aCons (cS "north") (a1 (cS "up"))))) oNo (oAt (p7 nF 1 (a1 (cC (.int 3)))))))) (gN 8) iB)
section
variable{T:List Tk}{M:List Mk'}{dr:List (Option Str)}(rne:rmN T≠[])(rl:(rmN T).length<=12)(dne:dr≠[])(dl:dr.length<=10)(dm:∀x,some x∈dr->x∈mkN T M)(A MK DK:Sl)
include rne rl dne dl dm
theorem Cr{r:Str}(hr:r∈rmN T):∀(l:List Str) (es:List L4.D) (W:List Wy) (s8 s9:Sl),rY es->G7 T M W->l.Nodup->(∀w∈W,w.r=r->w.w∉l)->(∀x∈l,x∈(["north", "up"]:List Str))->
  ∃(es':List L4.D) (W':List Wy) (t8 t9:Sl),rY es'/\G7 T M W'/\(∀w∈W',w∈W\/w.r=r)/\
   forL (gN 8) iB (l.map D.str) [A,.pm es,.im (.lst ((rmN T).map D.str)),MK,DK,.im (.lst (dr.map oS)),.ls (W.map wyD),.im (.str r),s8,s9]=some (.nx [A,.pm es',.im (.lst ((rmN T).map D.str)),MK,DK,.im (.lst (dr.map oS)),.ls (W'.map wyD),.im (.str r),t8,t9])
 |[],es,W,s8,s9,h,ok,_,_,_=>⟨es,W,s8,s9,h,ok,λw hw=>.inl hw,rfl⟩
 |x::l,es,W,s8,s9,h,ok,nd,hd,hx=>by
  let RM:Sl:=.im (.lst ((rmN T).map D.str));let DR:Sl:=.im (.lst (dr.map oS));let WS:Sl:=.ls (W.map wyD);let R:Sl:=.im (.str r);let X:Sl:=.im (.str x);obtain⟨nx,nl⟩:=cY.mp nd;obtain⟨d1,hd1,e1,x1,h1⟩:=pk (i:=1) (e:=cV 2) (a:=c1 oR (cV 2)) (L:=(rmN T).map D.str) (λes=>[A,.pm es,RM,MK,DK,DR,WS,R,X,s9]) (λ_=>rfl) (λ_ _=>rfl) rfl rfl h (by simpa using rne) (by rw[af];omega);obtain⟨g,hg,rfl⟩:=az.mp hd1;let Z:Sl:=.im (.str g);have et:rp (cT (c2 A9 (c1 oR (cV 6)) (cC (.int 8)))) [A,.pm e1,RM,MK,DK,DR,WS,R,X,Z]=some (decide (((W.map wyD).length:Int)<8),[A,.pm e1,RM,MK,DK,DR,WS,R,X,Z]):=CY (ρ1:=[A,.pm e1,RM,MK,DK,DR,WS,R,X,Z].map Sl.bor) (uN (nW (x:=.int ((W.map wyD).length:Nat)) (y:=.int 8) rfl rfl rfl));rw[af]at et;have s1:iB [A,.pm es,RM,MK,DK,DR,WS,R,X,s9]=sIf (rp (cT (c2 A9 (c1 oR (cV 6)) (cC (.int 8))))) (pQ (uM 6 (om (aCons (cV 7) (aCons (cV 8) (aCons (cV 9) (a1 (c2 dIx (cV 5) (p7 nF 1 (a1 (c1 oR (cV 5)))))))))))) oY [A,.pm e1,RM,MK,DK,DR,WS,R,X,Z]:=by unfold iB;exact ni ((ou x1).trans rfl)
  by_cases c:W.length<8
  ·rw[aH (by omega)]at et;obtain⟨d2,hd2,e2,x2,h2⟩:=pk (i:=1) (e:=cV 5) (a:=c1 oR (cV 5)) (L:=dr.map oS) (λes=>[A,.pm es,RM,MK,DK,DR,WS,R,X,Z]) (λ_=>rfl) (λ_ _=>rfl) rfl rfl h1 (by simpa using dne) (by rw[af];omega);obtain⟨m,hm,rfl⟩:=az.mp hd2;let w:Wy:=⟨r,x,g,m⟩;have ok':G7 T M (W++[w]):={
    wl:=by rw[aw,br];omega
    wo:=λv hv=>by
     rcases aN.mp hv with hv|hv
     ·exact ok.wo v hv
     ·rw[aU.mp hv];exact⟨hr,hx x aE,hg,λy e=>dm y (by rw[<-e];exact hm)⟩
    wn:=by
     rw[bg,bG];refine⟨ok.wn,by simp,λy hy z hz e=>?_⟩;rw[aF,d7,aU]at hz;obtain⟨v,hv,rfl⟩:=az.mp hy;have q:[v.r,v.w]=[r,x]:=e.trans hz;rw[kq,kq]at q;exact hd v hv q.1 (by rw[q.2.1];exact aE) }
   obtain⟨e3,W',t8,t9,h3,okk,sub,x3⟩:=Cr hr l e2 (W++[w]) X Z h2 ok' nl (λv hv er z=>by
    rcases aN.mp hv with hv|hv
    ·exact hd v hv er (aG _ z)
    ·rw[aU.mp hv]at z;exact nx z) (λy hy=>hx y (aG _ hy))
   refine⟨e3,W',t8,t9,h3,okk,λv hv=>?_,?_⟩
   ·rcases sub v hv with q|q
    ·rcases aN.mp q with q|q
     ·exact .inl q
     ·rw[aU.mp q];exact .inr rfl
    ·exact .inr q
   ·have s2:iB [A,.pm es,RM,MK,DK,DR,WS,R,X,s9]=some (.nx [A,.pm e2,RM,MK,DK,DR,.ls ((W++[w]).map wyD),R,X,Z]):=by refine s1.trans ((se et).trans ((uI (Ad (es0:=W.map wyD) (es:=W.map wyD) (ρ1:=[A,.pm e2,RM,MK,DK,DR,WS,R,X,Z]) (d:=wyD w) rfl (LX (nD rfl (nD rfl (nD rfl (nD x2 rfl)))) (bU rfl)) rfl (by rw[af];omega))).trans ?_));rw[bg];rfl
    rw[aF];unfold forL;rw[show gN 8 (.str x) [A,.pm es,RM,MK,DK,DR,WS,R,s8,s9]=some [A,.pm es,RM,MK,DK,DR,WS,R,X,s9] from rfl];simp only[s2];exact x3
  ·rw[aQ (by omega)]at et;obtain⟨e3,W',t8,t9,h3,okk,sub,x3⟩:=Cr hr l e1 W X Z h1 ok nl (λv hv er z=>hd v hv er (aG _ z)) (λy hy=>hx y (aG _ hy));refine⟨e3,W',t8,t9,h3,okk,sub,?_⟩;have s2:iB [A,.pm es,RM,MK,DK,DR,WS,R,X,s9]=some (.nx [A,.pm e1,RM,MK,DK,DR,WS,R,X,Z]):=s1.trans ((qQ et).trans rfl);rw[aF];unfold forL;rw[show gN 8 (.str x) [A,.pm es,RM,MK,DK,DR,WS,R,s8,s9]=some [A,.pm es,RM,MK,DK,DR,WS,R,X,s9] from rfl];simp only[s2];exact x3
theorem BE:∀(l:List Str) (es:List L4.D) (W:List Wy) (s7 s8 s9:Sl),rY es->G7 T M W->l.Nodup->(∀w∈W,w.r∉l)->(∀x∈l,x∈rmN T)->
  ∃(es':List L4.D) (W':List Wy) (t7 t8 t9:Sl),rY es'/\G7 T M W'/\
   forL (gN 7) oB (l.map D.str) [A,.pm es,.im (.lst ((rmN T).map D.str)),MK,DK,.im (.lst (dr.map oS)),.ls (W.map wyD),s7,s8,s9]=some (.nx [A,.pm es',.im (.lst ((rmN T).map D.str)),MK,DK,.im (.lst (dr.map oS)),.ls (W'.map wyD),t7,t8,t9])
 |[],es,W,s7,s8,s9,h,ok,_,_,_=>⟨es,W,s7,s8,s9,h,ok,rfl⟩
 |r::l,es,W,s7,s8,s9,h,ok,nd,hd,hx=>by
  let RM:Sl:=.im (.lst ((rmN T).map D.str));let DR:Sl:=.im (.lst (dr.map oS));let WS:Sl:=.ls (W.map wyD);let R:Sl:=.im (.str r);obtain⟨nx,nl⟩:=cY.mp nd;obtain⟨d,e1,x1,p0,p1,h1⟩:=dgx (i:=1) (b:=3) (a:=cC (.int 3)) (λes=>[A,.pm es,RM,MK,DK,DR,WS,R,s8,s9]) (λ_=>rfl) (λ_ _=>rfl) rfl h (by decide) (by decide);obtain⟨n,rfl⟩:=cI p0;obtain⟨e2,W',t8,t9,h2,ok2,sub,x2⟩:=Cr rne rl dne dl dm A MK DK (hx r aE) ((["north", "up"]:List Str).take n) e1 W s8 s9 h1 ok ((show (["north", "up"]:List Str).Nodup by decide).sublist (fD _ _)) (λw hw e=>ak (e▸aE) (hd w hw)) λx hx=>cM hx;obtain⟨e3,W2,t7,u8,u9,h3,ok3,x3⟩:=BE l e2 W' R t8 t9 h2 ok2 nl (λw hw z=>by
   rcases sub w hw with q|q
   ·exact hd w q (aG _ z)
   ·rw[q]at z;exact nx z) λx h=>hx x (aG _ h)
  refine⟨e3,W2,t7,u8,u9,h3,ok3,?_⟩;have s1:oB [A,.pm es,RM,MK,DK,DR,WS,R,s8,s9]=some (.nx [A,.pm e2,RM,MK,DK,DR,.ls (W'.map wyD),R,t8,t9]):=by
   unfold oB;refine(qZ (ds:=(((["north", "up"]:List Str).take n).map D.str)) (ρ1:=[A,.pm e1,RM,MK,DK,DR,WS,R,s8,s9]) ?_).trans x2;have q:vc (cL (nP (aCons (cS "north") (a1 (cS "up"))))) oNo (oAt (p7 nF 1 (a1 (cC (.int 3))))) [A,.pm es,RM,MK,DK,DR,WS,R,s8,s9]=some ((((["north", "up"]:List Str).take n).map D.str),[A,.pm e1,RM,MK,DK,DR,WS,R,s8,s9]):=by refine(yH (ds:=(["north", "up"]:List Str).map D.str) (ρ1:=[A,.pm es,RM,MK,DK,DR,WS,R,s8,s9]) (ρ2:=[A,.pm es,RM,MK,DK,DR,WS,R,s8,s9]) (l:=none) rfl rfl (Cm x1)).trans ?_;rw[Ay n (by show n<=2;omega),fN]
   unfold iL;rw[oU q]
  rw[aF];unfold forL;rw[show gN 7 (.str r) [A,.pm es,RM,MK,DK,DR,WS,s7,s8,s9]=some [A,.pm es,RM,MK,DK,DR,WS,R,s8,s9] from rfl];simp only[s1];exact x3
end
theorem JQ(g:Good T)(h:rY es):∃M dk W es',Wd T M dk W/\uB es [LD T]=some (.tup [MD' M,.lst (dk.map D.str),.lst (W.map wyD)],es'):=by
 let A:Sl:=.im (LD T);let RM:Sl:=.im (.lst ((rmN T).map D.str));let U:Sl:=.un;have hT:=g.len;have rne:rmN T≠[]:=List.ne_nil_of_mem (AA g);have rl:(rmN T).length<=12:=by unfold rmN;rw[af];exact bw (fq _ _) hT
 have rnd:(rmN T).Nodup:=g.nd.sublist (List.filter_sublist.map Tk.m);obtain⟨d,e1,x1,p0,p1,h1⟩:=dgx (i:=1) (b:=4) (a:=cC (.int 4)) (λes=>[A,.pm es,RM,U,U,U,U,U,U,U]) (λ_=>rfl) (λ_ _=>rfl) rfl h (by decide) (by decide);obtain⟨n,rfl⟩:=cI p0;obtain⟨M,e2,en,mo,h2,x2⟩:=yM A [RM,U,U,U,U,U,U,U] (mkL.take n) e1 h1;have lM:M.length<=3:=by have:=aM bM en;rw[af,bf]at this;rw[this];exact ix _ _
 let MK:Sl:=.im (MD' M);obtain⟨dk,e3,sl,nh,h3,x3⟩:=wI A [RM,MK,U,U,U,U,U,U] (rmN T) e2 h2;let DK:Sl:=.im (.lst (dk.map D.str));let dr:List (Option Str):=([none,some "case", some "candle"]:List (Option Str))++(M.map Mk'.n).map some;let DR:Sl:=.im (.lst (dr.map oS));have mk_in:∀{x:Str},(∃t∈T,t.m=x/\t.k.mk=true)->x∈mkN T M:=λ⟨t,h1,h2,h3⟩=>bb _ (az.mpr ⟨t,bF.mpr ⟨h1,h3⟩,h2⟩);obtain⟨e4,W,t7,t8,t9,h4,ok,x4⟩:=BE (T:=T) (M:=M) (dr:=dr) rne rl (by simp[dr]) (by show (([none,some "case", some "candle"]:List (Option Str))++(M.map Mk'.n).map some:List (Option Str)).length<=10;rw[aw,af,af];show 3+M.length<=10;omega) (λx hx=>by
  rcases aN.mp hx with hx|hx
  ·simp only[aO,dy,or_false,jV,reduceCtorEq,false_or]at hx;rcases hx with rfl|rfl
   ·exact mk_in g.can
   ·exact mk_in g.cdn
  ·obtain⟨y,hy,e⟩:=az.mp hx;cases e;exact ba _ hy) A MK DK (rmN T) e3 [] U U U h3 ⟨by decide,λw hw=>(by cases hw),.nil⟩ rnd (λw hw=>(by cases hw)) λx hx=>hx
 refine⟨M,dk,W,e4,⟨g,⟨n,en⟩,mo,rnd.sublist sl,λx hx=>⟨sl.subset hx,nh x hx⟩,ok.wl,ok.wo,ok.wn⟩,NZ (ρ:=[A,.pm e4,RM,MK,DK,DR,.im (.lst (W.map wyD)),t7,t8,t9]) rfl ?_ rfl⟩;unfold uA;refine(ni (ρ':=[A,.pm es,RM,U,U,U,U,U,U,U]) ((ou (oU (yG (ρ:=[A,.pm es,U,U,U,U,U,U,U,U]) (i:=0) (by omega) (λt ht=>(g.nm t ht).1) rfl))).trans rfl)).trans ?_;refine(ni (ρ':=[A,.pm e2,RM,MK,U,U,U,U,U,U]) ((ou (oU ((xB (ds:=(mkL.take n).map D.str) (ρ1:=[A,.pm e1,RM,U,U,U,U,U,U,U]) ?_ ?_).trans x2))).trans rfl)).trans ?_
 ·have q:vc (cL (nP (aCons (cS "gate") (aCons (cS "tide") (a1 (cS "i")))))) oNo (oAt (p7 nF 1 (a1 (cC (.int 4))))) [A,.pm es,RM,U,U,U,U,U,U,U]=some ((mkL.take n).map D.str,[A,.pm e1,RM,U,U,U,U,U,U,U]):=by refine(yH (ds:=mkL.map D.str) (ρ1:=[A,.pm es,RM,U,U,U,U,U,U,U]) (ρ2:=[A,.pm es,RM,U,U,U,U,U,U,U]) (l:=none) rfl rfl (Cm x1)).trans ?_;rw[Ay n (by show n<=3;omega),fN]
  unfold iL;rw[oU q]
 ·rw[af,bf];exact bw (ix _ _) (by decide)
 refine(ni (ρ':=[A,.pm e3,RM,MK,DK,U,U,U,U,U]) ((ou (oU ((xB (ds:=(rmN T).map D.str) (ρ1:=[A,.pm e2,RM,MK,U,U,U,U,U,U]) rfl (by rw[af];omega)).trans x3))).trans rfl)).trans ?_;let ρ:List Sl:=[A,.pm e3,RM,MK,DK,U,U,U,U,U];refine(ni (ρ':=[A,.pm e3,RM,MK,DK,DR,U,U,U,U]) ((ou (oU (qk (xs:=[.non,.str "case", .str "candle"]) (ys:=(M.map Mk'.g).map Mg.n) (ρ1:=ρ) (ρ2:=ρ) rfl (oU (sU mgD Mg.n (M.map Mk'.g) (ρ1:=ρ) rfl (by rw[af];omega) λm _=>⟨[.im (mgD m)],[.im (mgD m)],rfl,rfl,rfl⟩)) (by rw[af,af];show 3+M.length<=1000;omega)))).trans ?_)).trans ?_
 ·have q:[D.non,.str "case", .str "candle"]++(M.map Mk'.g).map Mg.n=dr.map oS:=by show _=(([none,some "case", some "candle"]:List (Option Str))++(M.map Mk'.n).map some:List (Option Str)).map oS;rw[bg,aY,aY,aY];rfl
  rw[q];rfl
 refine(ni (ρ':=[A,.pm e3,RM,MK,DK,DR,.ls [],U,U,U]) rfl).trans ?_;refine(ni (ρ':=[A,.pm e4,RM,MK,DK,DR,.ls (W.map wyD),t7,t8,t9]) ((qZ (ds:=(rmN T).map D.str) (ρ1:=[A,.pm e3,RM,MK,DK,DR,.ls [],U,U,U]) rfl).trans x4)).trans ?_;rfl
theorem DI(ns:List Int)(k:Nat):∃c,pZ [.fzl (ns.map D.int),.int k]=some (.int c):=by
 let ρ:List Sl:=[.im (.fzl (ns.map D.int)),.im (.int k)];have ev:cT (c2 A9 (cV 1) (c1 oR (cV 0))) ρ=some (decide ((k:Int)<((ns.map D.int).length:Nat)),ρ):=rfl;rw[af]at ev;by_cases h:k<ns.length
 ·rw[aH (by omega)]at ev;refine⟨ns[k],pd (ρ:=ρ) rfl (rF ((se ev).trans (qc (nW (x:=.fzl (ns.map D.int)) (y:=.int k) rfl rfl ?_))))⟩;exact sY (by rw[aZ,aP h];rfl)
 ·rw[aQ (by omega)]at ev;exact⟨0,pd (ρ:=ρ) rfl ((ni ((qQ ev).trans rfl)).trans rfl)⟩
theorem N0{l o:List L4.D}(ll:l.length<=20)(lo:o.length<=3)(b:Int):∃a,a<=l.length/\rV [.lst l,.lst o,.int b]=some (.lst (l.take a++o++l.drop a)):=by
 obtain⟨a,ha⟩:=cI (eJ b (by omega:(l.length:Int)+1≠0));have haT:a<=l.length:=by have:=eE b (by omega:(0:Int)<(l.length:Int)+1);omega
 let ρ:List Sl:=[.im (.lst l),.im (.lst o),.im (.int b),.im (.int (a:Nat))];refine⟨a,haT,Gs (ρ:=ρ) rfl ?_⟩;have x1:vc (cV 0) oNo (oAt (cV 3)) ρ=some (l.take a,ρ):=(yH (ds:=l) (ρ1:=ρ) (ρ2:=ρ) (ρ3:=ρ) (l:=none) (u:=some (a:Int)) rfl rfl rfl).trans (by rw[Ay a haT]);have x2:vc (cV 0) (oAt (cV 3)) oNo ρ=some (l.drop a,ρ):=(yH (ds:=l) (ρ1:=ρ) (ρ2:=ρ) (ρ3:=ρ) (l:=some (a:Int)) (u:=none) rfl rfl rfl).trans (by rw[NR a haT]);have lt:(l.take a).length<=20:=by rw[bf];omega
 have ld:(l.drop a).length<=20:=by rw[cu];omega
 unfold vq;refine(ni (ρ':=ρ) ((ou (d:=.int (a:Nat)) (ρ':=[.im (.lst l),.im (.lst o),.im (.int b),.un]) ?_).trans rfl)).trans (tH (qk (oU (qk (oU x1) (ys:=o) (ρ2:=ρ) rfl (by omega))) (oU x2) (by rw[aw];omega)));refine Eq.trans (nW (x:=.int b) (y:=.int ((l.length:Int)+1)) (ρ1:=[.im (.lst l),.im (.lst o),.im (.int b),.un]) (ρ2:=[.im (.lst l),.im (.lst o),.im (.int b),.un]) rfl (nW (x:=.int (l.length:Nat)) (y:=.int 1) (oi rfl rfl) rfl rfl) (sf (by omega))) ?_;rw[ha]
theorem G8{gg:FG}(h1:f ρ=some (d,ρ1))(h2:gg d ρ1=some ρ2):xW f gg ρ=some (.nx ρ2):=by unfold xW;rw[h1];simp only[h2]
theorem lt3{s:Nat}(h:s<3):s=0\/s=1\/s=2:=by omega
theorem AD{f:List L4.D->Option L4.D}{l:List L4.D}(h:f []=some (.lst l)):iL (nv f n6) ρ=some (l,ρ):=by unfold iL;rw[show nv f n6 ρ=some (.lst l,ρ) from nL (ds:=[]) rfl h]
def menu:List L4.D:=((mO.map λo=>.tup [.int 0,.lst (o.map mgD)])++dO.map λo=>.tup [.int 1,.lst o])++((nw5++qW.map qD).map (λd=>.tup [.int 2,.lst [d]])++dW.map λo=>.tup [.int 2,.lst (o.map wyD)])
theorem G9:menu.length=66:=by kernel_rfl
def lB:FS:=(nz (ot 8 (nv pZ (aCons (cV 0) (a1 (cV 7)))))
 (nz (xW (c2 dIx (cV 6) (c2 qe (c2 qd (cV 8) (c2 rK (cC (.int 7)) (cV 7))) (c1 oR (cV 6)))) (gT (qb (gN 9) (qb (gN 10) wN)) 2))
 (nz (qy 11 (nP (aCons (cV 3) (aCons (cV 4) (a1 (cV 5))))))
 (nz (sIxPut 11 9 (nv rV (aCons (wg 11 (cV 9)) (aCons (cV 10) (a1 (c2 sJ (cV 8) (c1 oR (cV 6))))))))
 (sIf (rp (sd (cT (nv oj (aCons (cV 2) (aCons (c2 dIx (cV 11) (cC (.int 0))) (aCons (c2 dIx (cV 11) (cC (.int 1))) (a1 (c2 dIx (cV 11) (cC (.int 2))))))))))) (oK (cC (.bl false))) oY)))))
section
variable{T:List Tk}{M:List Mk'}{dk:List Str}{W:List Wy}(w:Wd T M dk W)
include w
theorem item(hd:d∈menu):∃(s:Nat) (o l:List L4.D),d=.tup [.int (s:Nat),.lst o]/\s<3/\o.length<=3/\l.length<=20/\([MD' M,.lst (dk.map D.str),.lst (W.map wyD)]:List L4.D)[s]?=some (.lst l)/\∀a:Nat,
  ∃n0 n1 n2,([MD' M,.lst (dk.map D.str),.lst (W.map wyD)]:List L4.D).set s (.lst (l.take a++o++l.drop a))=[n0,n1,n2]/\oj [LD T,n0,n1,n2]=some (.bl true):=by
 have lm:=w.lm;have lw:=w.wl;have ld:dk.length<=5:=Bq w.dn (L:=rmL) λx hx=>w.g.rm x (w.di x hx).1;unfold menu at hd;rcases aN.mp hd with hd|hd
 ·rcases aN.mp hd with hd|hd
  ·obtain⟨O,hO,rfl⟩:=az.mp hd;have a:=aK.mp Pu O hO;have lO:O.length<=2:=by have b:=a;unfold mA at b;rw[aB]at b;exact bU b.1
   exact⟨0,O.map mgD,(M.map Mk'.g).map mgD,rfl,by decide,by rw[af];omega,by rw[af,af];omega,rfl,λn=>⟨_,_,_,rfl,refused (Px w n a _ _)⟩⟩
  ·obtain⟨O,hO,rfl⟩:=az.mp hd;have a:=aK.mp Py O hO;have lO:O.length<=2:=by have b:=a;unfold dA at b;rw[aB]at b;exact bU b.1
   exact⟨1,O,dk.map D.str,rfl,by decide,by omega,by rw[af];omega,rfl,λn=>⟨_,_,_,rfl,refused (Pz w n a _)⟩⟩
 ·rcases aN.mp hd with hd|hd
  ·obtain⟨o,ho,rfl⟩:=az.mp hd;exact⟨2,[o],W.map wyD,rfl,by decide,(by show 1<=3;decide),by rw[af];omega,rfl,λn=>⟨_,_,_,rfl,refused (NV w n ho)⟩⟩
  ·obtain⟨O,hO,rfl⟩:=az.mp hd;have lO:O.length<=2:=by have b:=aK.mp Kq O hO;rw[aB]at b;exact bU b.1
   exact⟨2,O.map wyD,W.map wyD,rfl,by decide,by rw[af];omega,by rw[af];omega,rfl,λn=>⟨_,_,_,rfl,refused (NW w n hO)⟩⟩
theorem JR(ns:List Int)(k:Nat)(es:List L4.D)(s8 s9 s10 s11:Sl):∃t8 t9 t10 t11,lB [.im (.fzl (ns.map D.int)),.ls es,.im (LD T),.im (MD' M),.im (.lst (dk.map D.str)),.im (.lst (W.map wyD)),.im (.lst menu),.im (.int k),s8,s9,s10,s11]=some (.nx [.im (.fzl (ns.map D.int)),.ls es,.im (LD T),.im (MD' M),.im (.lst (dk.map D.str)),.im (.lst (W.map wyD)),.im (.lst menu),.im (.int k),t8,t9,t10,t11]):=by
 obtain⟨c,ec⟩:=DI ns k;let S:Sl:=.im (.fzl (ns.map D.int));let E:Sl:=.ls es;let A:Sl:=.im (LD T);let B:Sl:=.im (MD' M);let F:Sl:=.im (.lst (dk.map D.str));let X:Sl:=.im (.lst (W.map wyD));let N:Sl:=.im (.lst menu);let K:Sl:=.im (.int k);have lm:=G9;obtain⟨j,hj⟩:=cI (eJ (c+7 * (k:Int)) (by decide:(66:Int)≠0));have hj7:j<menu.length:=by have:=eE (c+7 * (k:Int)) (by decide:(0:Int)<66);omega
 obtain⟨s,o,l,ed,hs,lo,ll,el,rf⟩:=item w (dR hj7);obtain⟨a,ha,ep⟩:=N0 ll lo (c / 66);obtain⟨n0,n1,n2,en,er⟩:=rf a;let C:Sl:=.im (.int c);let S8:Sl:=.im (.int (s:Nat));let O9:Sl:=.im (.lst o);let L3':List L4.D:=[MD' M,.lst (dk.map D.str),.lst (W.map wyD)];let ρ11:List Sl:=[S,E,A,B,F,X,N,K,C,S8,O9,.ls L3'];refine⟨C,S8,O9,.ls [n0,n1,n2],?_⟩;unfold lB;refine(ni (ρ':=[S,E,A,B,F,X,N,K,C,s9,s10,s11]) ((ou (nL (ds:=[.fzl (ns.map D.int),.int k]) (ρ1:=[S,E,A,B,F,X,N,K,s8,s9,s10,s11]) rfl ec)).trans rfl)).trans ?_;have h7:sm 7=true:=by decide
 have eM:oR (.lst menu)=some (.int 66):=by show some (D.int (menu.length:Nat))=_;rw[lm];rfl
 refine(ni (ρ':=[S,E,A,B,F,X,N,K,C,S8,O9,s11]) (G8 (d:=.tup [.int (s:Nat),.lst o]) (ρ1:=[S,E,A,B,F,X,N,K,C,s9,s10,s11]) (nW (x:=.lst menu) (y:=.int (j:Nat)) (ρ1:=[S,E,A,B,F,X,N,K,C,s9,s10,s11]) rfl ((nW (x:=.int (c+7 * (k:Int))) (y:=.int 66) (ρ1:=[S,E,A,B,F,X,N,K,C,s9,s10,s11]) (nW rfl (nW rfl rfl (rG (.inl h7))) rfl) (oi rfl eM) (sf (by decide))).trans (by rw[hj])) ?_) rfl)).trans ?_
 ·rw[<-ed];exact sY (aP hj7)
 refine(ni (ρ':=ρ11) rfl).trans ?_;have x0:wg 11 (cV 9) ρ11=some (.lst l,ρ11):=NS (ds:=L3') (d0:=L3') rfl rfl rfl (sY el);have x3:nv rV (aCons (wg 11 (cV 9)) (aCons (cV 10) (a1 (c2 sJ (cV 8) (c1 oR (cV 6)))))) ρ11=some (.lst (l.take a++o++l.drop a),ρ11):=
  nL (ds:=[.lst l,.lst o,.int (c / 66)]) (nD x0 (nD rfl (nD (nW (x:=.int c) (y:=.int 66) rfl (oi rfl eM) (div_pos (by decide) (by decide))) rfl))) ep
 let ρ12:List Sl:=[S,E,A,B,F,X,N,K,C,S8,O9,.ls [n0,n1,n2]];refine(ni (ρ':=ρ12) ?_).trans ?_
 ·unfold sIxPut;rw[x3];show (match ixN 3 (s:Int)with|some k=>some (Out.nx [S,E,A,B,F,X,N,K,C,S8,O9,.ls (L3'.set k (.lst (l.take a++o++l.drop a)))])|none=>none)=_;rw[show ixN 3 (s:Int)=some s from by rcases lt3 hs with rfl|rfl|rfl<;>rfl];show some (Out.nx [S,E,A,B,F,X,N,K,C,S8,O9,.ls (L3'.set s (.lst (l.take a++o++l.drop a)))])=_;rw[show L3'.set s (.lst (l.take a++o++l.drop a))=[n0,n1,n2] from en]
 have et:rp (sd (cT (nv oj (aCons (cV 2) (aCons (c2 dIx (cV 11) (cC (.int 0))) (aCons (c2 dIx (cV 11) (cC (.int 1))) (a1 (c2 dIx (cV 11) (cC (.int 2)))))))))) ρ12=some (false,ρ12):=by refine CY (ρ1:=ρ12.map Sl.bor) ?_;unfold sd;rw[uN (nL (ds:=[LD T,n0,n1,n2]) (ρ1:=ρ12.map Sl.bor) rfl er)];rfl
 exact(qQ et).trans rfl
theorem DJ(ns:List Int)(es:List L4.D):∀(l:List Nat) (s7 s8 s9 s10 s11:Sl),∃t7 t8 t9 t10 t11,forL (gN 7) lB (l.map λk:Nat=>D.int (k:Nat)) [.im (.fzl (ns.map D.int)),.ls es,.im (LD T),.im (MD' M),.im (.lst (dk.map D.str)),.im (.lst (W.map wyD)),.im (.lst menu),s7,s8,s9,s10,s11]=some (.nx [.im (.fzl (ns.map D.int)),.ls es,.im (LD T),.im (MD' M),.im (.lst (dk.map D.str)),.im (.lst (W.map wyD)),.im (.lst menu),t7,t8,t9,t10,t11])
 |[],s7,s8,s9,s10,s11=>⟨s7,s8,s9,s10,s11,rfl⟩
 |k::l,s7,s8,s9,s10,s11=>by obtain⟨t8,t9,t10,t11,e⟩:=JR w ns k es s8 s9 s10 s11;obtain⟨u7,u8,u9,u10,u11,e2⟩:=DJ ns es l (.im (.int k)) t8 t9 t10 t11;refine⟨u7,u8,u9,u10,u11,?_⟩;rw[aF];unfold forL;rw[show gN 7 (.int (k:Nat)) [.im (.fzl (ns.map D.int)),.ls es,.im (LD T),.im (MD' M),.im (.lst (dk.map D.str)),.im (.lst (W.map wyD)),.im (.lst menu),s7,s8,s9,s10,s11]=some [.im (.fzl (ns.map D.int)),.ls es,.im (LD T),.im (MD' M),.im (.lst (dk.map D.str)),.im (.lst (W.map wyD)),.im (.lst menu),.im (.int k),s8,s9,s10,s11] from rfl];simp only[e];exact e2
end
theorem N1(ns:List Int)(hl:ns.length<=63):Km [.fzl (ns.map D.int)]=some (.bl true):=by
 obtain⟨c0,e0⟩:=DI ns 0;obtain⟨T0,es1,d0,xt,h1⟩:=EH (es:=[.int c0]) (.inl ⟨c0,rfl⟩);rw[Pl]at xt;have g:=JJ d0;generalize (T0++cc).map Th.tk=T at xt g;obtain⟨M,dk,W,es2,w,xg⟩:=JQ g h1;have el:=w.by_;let S:Sl:=.im (.fzl (ns.map D.int));let E:Sl:=.ls es2;let A:Sl:=.im (LD T);let B:Sl:=.im (MD' M);let F:Sl:=.im (.lst (dk.map D.str));let X:Sl:=.im (.lst (W.map wyD));let N:Sl:=.im (.lst menu);let U:Sl:=.un;let m:Int:=if (if (ns.length:Int)<40 then (ns.length:Int)else 40) > 2 then (if (ns.length:Int)<40 then (ns.length:Int)else 40)else 2
 have hm:2<=m/\m<=63:=by show 2<=(if _ then _ else _:Int)/\(if _ then _ else _:Int)<=63;split<;>split<;>omega
 obtain⟨t7,t8,t9,t10,t11,e5⟩:=DJ w ns es2 ((aV (m - 1).toNat).map (1 + ·)) U U U U U
 refine pd (ρ:=[S,E,A,B,F,X,N,t7,t8,t9,t10,t11]) rfl ?_;unfold Dt;refine(ni (ρ':=[S,.ls [.int c0],U,U,U,U,U,U,U,U,U,U]) ((Ab (LW (nD (nL (ds:=[.fzl (ns.map D.int),.int 0]) (ρ1:=[S,U,U,U,U,U,U,U,U,U,U,U]) rfl e0) rfl) (bU rfl))).trans rfl)).trans ?_;refine(ni (ρ':=[S,.ls es1,A,U,U,U,U,U,U,U,U,U]) ((ou (B3 (es0:=[.int c0]) (es:=[.int c0]) (ds:=[]) (ρ1:=[S,.ls [.int c0],U,U,U,U,U,U,U,U,U,U]) rfl rfl rfl xt)).trans rfl)).trans ?_;refine(ni (ρ':=[S,E,A,B,F,X,U,U,U,U,U,U]) (G8 (ρ1:=[S,E,A,U,U,U,U,U,U,U,U,U]) (JP (es:=es1) (ds:=[LD T]) (ρ1:=[S,.ls es1,A,U,U,U,U,U,U,U,U,U]) rfl rfl xg) rfl)).trans ?_;refine(ni (ρ':=[S,E,A,B,F,X,U,U,U,U,U,U]) ((qQ (uN (nL (ds:=[LD T,MD' M,.lst (dk.map D.str),.lst (W.map wyD)]) (ρ1:=[S,E,A,B,F,X,U,U,U,U,U,U]) rfl el))).trans rfl)).trans ?_;let ρ:List Sl:=[S,E,A,B,F,X,U,U,U,U,U,U];have em:cL (o4 (cL (o4 (cL (nJ 1 [] (iL (nv qH n6)) (gN 0) oh (om (aCons (cC (.int 0)) (a1 (cV 0)))))) (cL (nJ 1 [] (iL (nv qV n6)) (gN 0) oh (om (aCons (cC (.int 1)) (a1 (cV 0)))))))) (cL (nJ 1 [] (iL (nv qX n6)) (gN 0) oh (om (aCons (cC (.int 2)) (a1 (cV 0))))))) ρ=some (.lst menu,ρ):=by
  have q1:iL (nv qH n6) ρ=some (mO.map λo=>.lst (o.map mgD),ρ):=AD Pq;have q2:iL (nv qV n6) ρ=some (dO.map D.lst,ρ):=AD Pr;have q3:iL (nv qX n6) ρ=some (((nw5.map λd=>[d])++(qW.map λq=>[qD q])++dW.map λo=>o.map wyD).map D.lst,ρ):=(AD Pt).trans rfl;refine(oU (qk (oU (qk (oU (sU (λo:List Mg=>D.lst (o.map mgD)) (λo=>.tup [.int 0,.lst (o.map mgD)]) mO q1 (bU (by kernel_rfl)) λo _=>⟨[.im (.lst (o.map mgD))],[.im (.lst (o.map mgD))],rfl,rfl,rfl⟩))
   (oU (sU D.lst (λo=>.tup [.int 1,.lst o]) dO q2 (bU (by kernel_rfl)) λo _=>⟨[.im (.lst o)],[.im (.lst o)],rfl,rfl,rfl⟩)) (bU (by kernel_rfl))))
   (oU (sU D.lst (λo=>.tup [.int 2,.lst o]) _ q3 (bU (by kernel_rfl)) λo _=>⟨[.im (.lst o)],[.im (.lst o)],rfl,rfl,rfl⟩)) (bU (by kernel_rfl)))).trans ?_
  rfl
 refine(ni (ρ':=[S,E,A,B,F,X,N,U,U,U,U,U]) ((ou em).trans rfl)).trans ?_;refine(ni ((qZ (ds:=((aV (m - 1).toNat).map (1 + ·)).map λk:Nat=>D.int (k:Nat)) (ρ1:=[S,E,A,B,F,X,N,U,U,U,U,U]) ?_).trans e5)).trans ?_
 ·have em2:c2 dMax2 (cC (.int 2)) (c2 dMin2 (cC (.int 40)) (c1 oR (cV 0))) [S,E,A,B,F,X,N,U,U,U,U,U]=some (.int m,[S,E,A,B,F,X,N,U,U,U,U,U]):=by refine nW (x:=.int 2) (y:=.int (if (ns.length:Int)<40 then (ns.length:Int)else 40)) rfl (nW (x:=.int 40) (y:=.int (ns.length:Nat)) rfl (oi rfl (by show some (D.int _)=_;rw[af])) rfl) rfl
  unfold iR2;show (match c2 dMax2 (cC (.int 2)) (c2 dMin2 (cC (.int 40)) (c1 oR (cV 0))) [S,E,A,B,F,X,N,U,U,U,U,U]with
   |some (.int j,ρ2)=>if (-1000000<=(1:Int)/\(1:Int)<=1000000)/\-1000000<=j/\j<=1000000 then some (va 1 (j - 1).toNat,ρ2)else none
   |_=>none)=_
  rw[em2];show (if (-1000000<=(1:Int)/\(1:Int)<=1000000)/\-1000000<=m/\m<=1000000 then some (va 1 (m - 1).toNat,[S,E,A,B,F,X,N,U,U,U,U,U])else none)=_;rw[ag (by omega)];unfold va;rw[aY];congr 2
 exact qc (DD (nL (ds:=[LD T,MD' M,.lst (dk.map D.str),.lst (W.map wyD)]) rfl el))
end K07x
namespace K07x
open PySem L2 L3 L4
open PySem.W (nsIn)
structure Fx(K:aj)(C0 C1 C2 C3 C4 C5 C6 C7 C8 C9 C10 C11 C12 C13 C14 C15:Addr):Prop where
 a0:nsIn K aJ "Thing" = some (some (.ref C0))
 a1:nsIn K aJ "Mark" = some (some (.ref C1))
 a2:nsIn K aJ "Verb" = some (some (.ref C2))
 a3:nsIn K aJ "At" = some (some (.ref C3))
 a4:nsIn K aJ "Has" = some (some (.ref C4))
 a5:nsIn K aJ "Seen" = some (some (.ref C5))
 a6:nsIn K aJ "Marked" = some (some (.ref C6))
 a7:nsIn K aJ "Kind" = some (some (.ref C7))
 a8:nsIn K aJ "Word" = some (some (.ref C8))
 a9:nsIn K aJ "Not" = some (some (.ref C9))
 a10:nsIn K aJ "Both" = some (some (.ref C10))
 a11:nsIn K aJ "Move" = some (some (.ref C11))
 a12:nsIn K aJ "Put" = some (some (.ref C12))
 a13:nsIn K aJ "Rule" = some (some (.ref C13))
 a14:nsIn K aJ "World" = some (some (.ref C14))
 k0:CF K C0 ["kind", "name", "start", "words"]
 k1:CF K C1 ["most", "name", "start"]
 k2:CF K C2 ["joining", "name", "others", "form"]
 k3:CF K C3 ["place", "term"]
 k4:CF K C4 ["term"]
 k5:CF K C5 []
 k6:CF K C6 ["term", "value"]
 k7:CF K C7 ["kind", "term"]
 k8:CF K C8 ["word"]
 k9:CF K C9 ["inner"]
 k10:CF K C10 []
 k11:CF K C11 ["place", "term"]
 k12:CF K C12 ["term", "value"]
 k13:CF K C13 ["verb", "deeds", "refuses", "tests", "text"]
 k14:CF K C14 ["copied_rules", "kept_things", "kept_verbs", "shared_rules", "shared_verbs", "your_name", "kept_dark", "kept_marks", "kept_rules", "kept_ways", "mosts_by_name", "rules_by_verb", "things_by_name", "verbs_by_word"]
 ax:nsIn K aJ "NoWorld" = some (some (.ref C15))
 xx:XC K C15
 i_Mark:xD K [C0,C1,C2,C3,C4,C5,C6,C7,C8,C9,C10,C11,C12,C13,C14] C1 1=true
 i_Thing:xD K [C0,C1,C2,C3,C4,C5,C6,C7,C8,C9,C10,C11,C12,C13,C14] C0 0=true
 nd:decide ([C0,C1,C2,C3,C4,C5,C6,C7,C8,C9,C10,C11,C12,C13,C14]:List Addr).Nodup=true
 e:((["all", "any", "bool", "int", "isinstance", "len", "list", "max", "min", "range", "set", "str", "tuple"]:List Str).all λx=>match nsIn K aJ x with|some none=>true|_=>false)=true
 g0:GS K "KINDS" ["room", "plain", "fixed", "box", "lamp", "you"]
 g1:GS K "KINDS_APART" ["room", "you"]
 g2:GS K "KINDS_THAT_HOLD" ["room", "box", "you"]
 g3:GS K "KINDS_WITH_MARK" ["box", "lamp"]
 g4:GC K "MOST_BESIDE" 7
 g5:GC K "MOST_IN_NAME" 8
 g6:GC K "MOST_IN_WORD" 12
 g7:GC K "MOST_MARKS" 4
 g8:GC K "MOST_OF_MARK" 3
 g9:GC K "MOST_ROOMS" 5
 g10:GC K "MOST_RULES" 20
 g11:GC K "MOST_VERBS" 6
 g12:GC K "MOST_WAYS" 10
 g13:GC K "MOST_WORDS" 4
 g14:GS K "NO_NAMES" ["it", "other", "here", "the", "a", "undo", "restart"]
 g15:GS K "NO_WORDS" ["the", "a"]
 g16:GS K "NO_WORDS_OF_ROWS" ["the", "a", "undo", "restart"]
 q17:GD K "is_small_letters" (top 18)
 q18:GD K "is_name" (top 19)
 q19:GD K "is_word" (top 20)
 q20:GD K "is_one_of" (top 22)
 q21:GD K "is_whole" (top 23)
 q22:GD K "is_list_up_to" (top 24)
 q23:GD K "own_list" (top 96)
 q24:GJ K C0 "Thing.__init__" (inClass (top 10) 0) [V.non]
 q25:GM K C1 "__init__" "Mark.__init__" (inClass (top 11) 0)
 q26:GJ K C2 "Verb.__init__" (inClass (top 12) 0) [V.non,(V.str "one"),V.non]
 q27:GM K C3 "__init__" "At.__init__" (inClass (top 73) 0)
 q28:GM K C4 "__init__" "Has.__init__" (inClass (top 74) 0)
 q29:GM K C6 "__init__" "Marked.__init__" (inClass (top 76) 0)
 q30:GM K C7 "__init__" "Kind.__init__" (inClass (top 77) 0)
 q31:GM K C8 "__init__" "Word.__init__" (inClass (top 78) 0)
 q32:GM K C9 "__init__" "Not.__init__" (inClass (top 80) 0)
 q33:GM K C11 "__init__" "Move.__init__" (inClass (top 87) 0)
 q34:GM K C12 "__init__" "Put.__init__" (inClass (top 88) 0)
 q35:GJ K C13 "Rule.__init__" (inClass (top 95) 0) [(V.bl false)]
 q36:GM K C0 "can_hold" "Thing.can_hold" (inClass (top 10) 1)
 q37:GM K C0 "has_mark" "Thing.has_mark" (inClass (top 10) 2)
 q38:GM K C0 "is_plainly" "Thing.is_plainly" (inClass (top 10) 3)
 q39:GD K "refuse_unless" (top 34)
 q40:GD K "count_of" (top 37)
 q41:GD K "plain_ones" (top 38)
 q42:GD K "is_mark" (top 40)
 q43:GD K "check_things" (top 36)
 q44:GD K "check_marks" (top 39)
 q45:GD K "are_unlike" (top 42)
 q46:GD K "check_names" (top 41)
 q47:GD K "mark_names" (top 43)
 q48:GD K "is_start" (top 45)
 q49:GD K "comes_to_room" (top 46)
 q50:GD K "check_starts" (top 44)
 q51:GD K "are_words" (top 48)
 q52:GD K "has_all" (top 50)
 q53:GD K "is_told_apart" (top 49)
 q54:GD K "check_words_of_things" (top 47)
 q55:GD K "check_dark" (top 51)
 q56:GD K "is_way" (top 53)
 q57:GD K "check_ways" (top 52)
 q58:GD K "check_verbs" (top 54)
 q59:GD K "are_apart" (top 57)
 q60:GD K "check_vocabulary" (top 56)
 q61:GD K "check_parts" (top 35)
 q62:GD K "does" (top 119)
 q63:GD K "refuses" (top 120)
 q64:GD K "hand_rules" (top 121)
 q65:GD K "put_rules" (top 122)
 q66:GD K "lid_rules" (top 123)
 q67:GD K "flame_rules" (top 124)
 q68:GD K "way_tests" (top 126)
 q69:GD K "go_rules" (top 125)
 q70:GD K "wait_rules" (top 127)
 q71:GD K "common_rules" (top 118)
 q72:GD K "common_verbs" (top 117)
 q73:GD K "by_name" (top 131)
 q74:GD K "mosts_by_name" (top 132)
 q75:GD K "verbs_by_word" (top 133)
 q76:GD K "by_verb" (top 134)
 q77:GM K C14 "of_kind" "World.of_kind" (inClass (top 130) 3)
 q78:GM K C14 "all_verbs" "World.all_verbs" (inClass (top 130) 13)
 q79:GM K C14 "__init__" "World.__init__" (inClass (top 130) 0)
 q80:GD K "_law_cell_at" (top 136)
 q81:GD K "_law_digit" (top 137)
 q82:GD K "_law_things" (top 138)
 q83:GD K "_law_marks" (top 139)
 q84:GD K "_law_dark" (top 140)
 q85:GD K "_law_ways" (top 141)
 q86:GD K "_law_refused" (top 142)
 q87:GD K "_law_good" (top 143)
 q88:GD K "_law_put" (top 144)
 q89:GD K "law" (top 145)
class Yx(B:Bz):Prop where
 y:Yw B.P B.w B.mg B.base B.G
 f:Fx B.G.K (B.G.ca 0) (B.G.ca 1) (B.G.ca 2) (B.G.ca 3) (B.G.ca 4) (B.G.ca 5) (B.G.ca 6) (B.G.ca 7) (B.G.ca 8) (B.G.ca 9) (B.G.ca 10) (B.G.ca 11) (B.G.ca 12) (B.G.ca 13) (B.G.ca 14) (B.G.ca 15)
section
variable{B:Bz}[Y:Yx B]
instance:Yb B:=⟨Y.y⟩
instance:Nb B "all" := ⟨Y.y.n Y.f.e 0 rfl⟩
instance:Nb B "any" := ⟨Y.y.n Y.f.e 1 rfl⟩
instance:Nb B "bool" := ⟨Y.y.n Y.f.e 2 rfl⟩
instance:Nb B "int" := ⟨Y.y.n Y.f.e 3 rfl⟩
instance:Nb B "isinstance" := ⟨Y.y.n Y.f.e 4 rfl⟩
instance:Nb B "len" := ⟨Y.y.n Y.f.e 5 rfl⟩
instance:Nb B "list" := ⟨Y.y.n Y.f.e 6 rfl⟩
instance:Nb B "max" := ⟨Y.y.n Y.f.e 7 rfl⟩
instance:Nb B "min" := ⟨Y.y.n Y.f.e 8 rfl⟩
instance:Nb B "range" := ⟨Y.y.n Y.f.e 9 rfl⟩
instance:Nb B "set" := ⟨Y.y.n Y.f.e 10 rfl⟩
instance:Nb B "str" := ⟨Y.y.n Y.f.e 11 rfl⟩
instance:Nb B "tuple" := ⟨Y.y.n Y.f.e 12 rfl⟩
instance:Co B "KINDS" xG:=⟨Y.y.cs Y.f.g0⟩
instance:Co B "KINDS_APART" uU:=⟨Y.y.cs Y.f.g1⟩
instance:Co B "KINDS_THAT_HOLD" sg:=⟨Y.y.cs Y.f.g2⟩
instance:Co B "KINDS_WITH_MARK" sh:=⟨Y.y.cs Y.f.g3⟩
instance:Co B "MOST_BESIDE" su:=⟨Y.y.ci Y.f.g4⟩
instance:Co B "MOST_IN_NAME" uj:=⟨Y.y.ci Y.f.g5⟩
instance:Co B "MOST_IN_WORD" uk:=⟨Y.y.ci Y.f.g6⟩
instance:Co B "MOST_MARKS" rA:=⟨Y.y.ci Y.f.g7⟩
instance:Co B "MOST_OF_MARK" um:=⟨Y.y.ci Y.f.g8⟩
instance:Co B "MOST_ROOMS" tL:=⟨Y.y.ci Y.f.g9⟩
instance:Co B "MOST_RULES" vQ:=⟨Y.y.ci Y.f.g10⟩
instance:Co B "MOST_VERBS" vO:=⟨Y.y.ci Y.f.g11⟩
instance:Co B "MOST_WAYS" sj:=⟨Y.y.ci Y.f.g12⟩
instance:Co B "MOST_WORDS" vP:=⟨Y.y.ci Y.f.g13⟩
instance:Co B "NO_NAMES" yw:=⟨Y.y.cs Y.f.g14⟩
instance:Co B "NO_WORDS" yx:=⟨Y.y.cs Y.f.g15⟩
instance:Co B "NO_WORDS_OF_ROWS" ph:=⟨Y.y.cs Y.f.g16⟩
instance:Ff B sM "copied_rules" := ⟨vd (Y.f.k14.at 0 rfl)⟩
instance:Ff B pT "joining" := ⟨vd (Y.f.k2.at 0 rfl)⟩
instance:Ff B tS "kept_things" := ⟨vd (Y.f.k14.at 1 rfl)⟩
instance:Ff B ui "kept_verbs" := ⟨vd (Y.f.k14.at 2 rfl)⟩
instance:Ff B oF "kind" := ⟨orQ (vd (Y.f.k0.at 0 rfl)) (Y.f.k7.at 0 rfl)⟩
instance:Ff B rM "most" := ⟨vd (Y.f.k1.at 0 rfl)⟩
instance:Ff B nO "name" := ⟨orQ (orQ (vd (Y.f.k0.at 1 rfl)) (Y.f.k1.at 1 rfl)) (Y.f.k2.at 1 rfl)⟩
instance:Ff B qN "others" := ⟨vd (Y.f.k2.at 2 rfl)⟩
instance:Ff B sN "shared_rules" := ⟨vd (Y.f.k14.at 3 rfl)⟩
instance:Ff B sO "shared_verbs" := ⟨vd (Y.f.k14.at 4 rfl)⟩
instance:Ff B p9 "start" := ⟨orQ (vd (Y.f.k0.at 2 rfl)) (Y.f.k1.at 2 rfl)⟩
instance:Ff B rN "verb" := ⟨vd (Y.f.k13.at 0 rfl)⟩
instance:Ff B oV "words" := ⟨vd (Y.f.k0.at 3 rfl)⟩
instance:Ff B uT "your_name" := ⟨vd (Y.f.k14.at 5 rfl)⟩
instance:Af B 0 ["kind", "name", "start", "words"]:=⟨Y.f.k0⟩
instance:Af B 1 ["most", "name", "start"]:=⟨Y.f.k1⟩
instance:Af B 2 ["joining", "name", "others", "form"]:=⟨Y.f.k2⟩
instance:Af B 3 ["place", "term"]:=⟨Y.f.k3⟩
instance:Af B 4 ["term"]:=⟨Y.f.k4⟩
instance:Af B 6 ["term", "value"]:=⟨Y.f.k6⟩
instance:Af B 7 ["kind", "term"]:=⟨Y.f.k7⟩
instance:Af B 8 ["word"]:=⟨Y.f.k8⟩
instance:Af B 9 ["inner"]:=⟨Y.f.k9⟩
instance:Af B 11 ["place", "term"]:=⟨Y.f.k11⟩
instance:Af B 12 ["term", "value"]:=⟨Y.f.k12⟩
instance:Af B 13 ["verb", "deeds", "refuses", "tests", "text"]:=⟨Y.f.k13⟩
instance:Af B 14 ["copied_rules", "kept_things", "kept_verbs", "shared_rules", "shared_verbs", "your_name", "kept_dark", "kept_marks", "kept_rules", "kept_ways", "mosts_by_name", "rules_by_verb", "things_by_name", "verbs_by_word"]:=⟨Y.f.k14⟩
instance:Ic B "Mark" GL:=⟨1,zm Y.f.i_Mark rfl (Jy 15 _) (EE.at ⟨Y.f.k0.ci,Y.f.k1.ci,Y.f.k2.ci,Y.f.k3.ci,Y.f.k4.ci,Y.f.k5.ci,Y.f.k6.ci,Y.f.k7.ci,Y.f.k8.ci,Y.f.k9.ci,Y.f.k10.ci,Y.f.k11.ci,Y.f.k12.ci,Y.f.k13.ci,Y.f.k14.ci,trivial⟩),Y.y.g Y.f.a1⟩
instance:Ic B "Thing" Ap:=⟨0,zm Y.f.i_Thing rfl (Jy 15 _) (EE.at ⟨Y.f.k0.ci,Y.f.k1.ci,Y.f.k2.ci,Y.f.k3.ci,Y.f.k4.ci,Y.f.k5.ci,Y.f.k6.ci,Y.f.k7.ci,Y.f.k8.ci,Y.f.k9.ci,Y.f.k10.ci,Y.f.k11.ci,Y.f.k12.ci,Y.f.k13.ci,Y.f.k14.ci,trivial⟩),Y.y.g Y.f.a0⟩
instance:Xn B "NoWorld" 15:=⟨Y.f.xx,Y.y.g Y.f.ax⟩
instance:Ij B 15:=⟨Qa Y.f.nd⟩
local macro_rules|`(tactic|trivial)=>do let x:=("zr_l2I zr_xC zr_xI zr_xR zr_xU zr_yI zr_y1 zr_y0 zr_tI zr_df0 zr_xpT O5 O4 O6 O7 Dj Pc MB M7 O8 Mz Nf M6 Mi Mj M8 Na M0 MF MV MI Ng Mr Ms Mt Mu Mo Nc Pd Nh Mp MD Nj Nl M9 NA MC MA My Mh MM MN Pa Np Mw Mx Mv Pe Pf MQ Ml Mn MR Mq Nw Nx Ny Nk Nm Nq Pb MG MH Nr Nt MS MJ MU Nu Nv Jw Jv Jx MW MX MY ML zr_r2I MO zr_xeI MP ME M4 M5 Ju Ni zr_mxI zr_mnI zr_xsI NB NC ND Jt Nd".splitOn " ").toArray.map fun s=>Lean.mkIdent (.mkSimple s);`(tactic|repeat' first|(with_reducible apply eqI);(first|rfl|kernel_rfl)|((with_reducible first|apply M1|apply M3);rotate_left 7;rfl)|(with_reducible first $[|apply $x]*)|(with_reducible intro _)|exact kr)
instance:Df B 1 "is_small_letters" (spF B.G qm):=gF4 rfl Y.f.q17 rfl (by unfold rO;trivial)
instance:Df B 2 "is_name" (spF B.G n4):=gF4 rfl Y.f.q18 rfl (by unfold zr;trivial)
instance:Df B 2 "is_word" (spF B.G ox):=gF4 rfl Y.f.q19 rfl (by unfold zt;trivial)
instance:Df B 1 "is_one_of" (spF B.G nX):=gF4 rfl Y.f.q20 rfl (by unfold wY;trivial)
instance:Df B 1 "is_whole" (spF B.G ve):=gF4 rfl Y.f.q21 rfl (by unfold yy;trivial)
instance:Df B 1 "is_list_up_to" (spF B.G og):=gF4 rfl Y.f.q22 rfl (by unfold tT;trivial)
instance:Df B 1 "own_list" (spF B.G vg):=gF4 rfl Y.f.q23 rfl (by unfold yz;trivial)
theorem uY:Bdz B (nmO (inClass (top 10) 0)) "Thing.__init__" (inClass (top 10) 0) (nV (inClass (top 10) 0)) 0 tN:=by
 unfold tN;refine Dj ?_ ?_
 all_goals trivial
instance:Kf B 1 "Thing" 0 oZ [D.non]:=gJ4 (dds:=[D.non]) Y.f.k0 Y.f.a0 rfl Y.f.q24 rfl rfl uY 0
instance:Kf B 1 "Thing" 0 oZ []:=gJ4 (dds:=[D.non]) Y.f.k0 Y.f.a0 rfl Y.f.q24 rfl rfl uY 1
instance:Kf B 1 "Mark" 1 oo []:=gI4 Y.f.k1 Y.f.a1 rfl Y.f.q25 rfl rfl (by unfold wZ;trivial)
theorem tP:Bdz B (nmO (inClass (top 12) 0)) "Verb.__init__" (inClass (top 12) 0) (nV (inClass (top 12) 0)) 0 uo:=by
 unfold uo;refine Dj ?_ ?_
 all_goals trivial
instance:Kf B 1 "Verb" 2 pU [D.non,(D.str "one"),D.non]:=gJ4 (dds:=[D.non,(D.str "one"),D.non]) Y.f.k2 Y.f.a2 rfl Y.f.q26 rfl rfl tP 0
instance:Kf B 1 "Verb" 2 pU [D.non]:=gJ4 (dds:=[D.non,(D.str "one"),D.non]) Y.f.k2 Y.f.a2 rfl Y.f.q26 rfl rfl tP 2
instance:Kf B 1 "Verb" 2 pU []:=gJ4 (dds:=[D.non,(D.str "one"),D.non]) Y.f.k2 Y.f.a2 rfl Y.f.q26 rfl rfl tP 3
instance:Kf B 1 "At" 3 wx []:=gI4 Y.f.k3 Y.f.a3 rfl Y.f.q27 rfl rfl (by unfold zu;trivial)
instance:Kf B 1 "Has" 4 vh []:=gI4 Y.f.k4 Y.f.a4 rfl Y.f.q28 rfl rfl (by unfold yA;trivial)
instance:Kf B 1 "Marked" 6 o6 []:=gI4 Y.f.k6 Y.f.a6 rfl Y.f.q29 rfl rfl (by unfold uV;trivial)
instance:Kf B 1 "Kind" 7 pV []:=gI4 Y.f.k7 Y.f.a7 rfl Y.f.q30 rfl rfl (by unfold w5;trivial)
instance:Kf B 1 "Word" 8 w9 []:=gI4 Y.f.k8 Y.f.a8 rfl Y.f.q31 rfl rfl (by unfold w6;trivial)
instance:Kf B 1 "Not" 9 pW []:=gI4 Y.f.k9 Y.f.a9 rfl Y.f.q32 rfl rfl (by unfold yB;trivial)
instance:Kf B 1 "Move" 11 qU []:=gI4 Y.f.k11 Y.f.a11 rfl Y.f.q33 rfl rfl (by unfold xa;trivial)
instance:Kf B 1 "Put" 12 rP []:=gI4 Y.f.k12 Y.f.a12 rfl Y.f.q34 rfl rfl (by unfold yC;trivial)
instance:Kf B 2 "Rule" 13 uq []:=gJ4 (dds:=[(D.bl false)]) Y.f.k13 Y.f.a13 rfl Y.f.q35 rfl rfl (by unfold xc;trivial) 1
instance:Mf B 9 "can_hold" pX:=⟨λc h e=>by
 unfold pX at e;split at e
 ·cases e;exact hF4 (k:=8) Y.f.k0 rfl Y.f.q36 rfl (by unfold sP;trivial)
 ·cases e⟩
instance:Mf B 9 "has_mark" pb:=⟨λc h e=>by
 unfold pb at e;split at e
 ·cases e;exact hF4 (k:=8) Y.f.k0 rfl Y.f.q37 rfl (by unfold sR;trivial)
 ·cases e⟩
instance:Mf B 9 "is_plainly" qO:=⟨λc h e=>by
 unfold qO at e;split at e
 ·cases e;exact hF4 (k:=8) Y.f.k0 rfl Y.f.q38 rfl (by unfold rQ;trivial)
 ·cases e⟩
instance:Dx B 1 "refuse_unless" 15 nq:=gX4 rfl Y.f.q39 rfl (by unfold tU;trivial)
instance:Df B 1 "count_of" (spF B.G qP):=gF4 rfl Y.f.q40 rfl (by unfold yD;trivial)
instance:Df B 10 "plain_ones" (spN B.G pj):=gN4 rfl Y.f.q41 rfl (by unfold vR;trivial)
instance:Df B 2 "is_mark" (spF B.G oW):=gF4 rfl Y.f.q42 rfl (by unfold zv;trivial)
instance:Dx B 11 "check_things" 15 qC:=gX4 rfl Y.f.q43 rfl (by unfold ur;trivial)
instance:Dx B 3 "check_marks" 15 pJ:=gX4 rfl Y.f.q44 rfl (by unfold qR;trivial)
instance:Df B 1 "are_unlike" (spF B.G n8):=gF4 rfl Y.f.q45 rfl (by unfold vS;trivial)
instance:Dx B 3 "check_names" 15 o7:=gX4 rfl Y.f.q46 rfl (by unfold qf;trivial)
instance:Df B 10 "mark_names" (spN B.G pq):=gN4 rfl Y.f.q47 rfl (by unfold vT;trivial)
instance:Df B 10 "is_start" (spF B.G vn):=gF4 rfl Y.f.q48 rfl (by unfold vm;trivial)
instance:Df B 1 "comes_to_room" (spF B.G oE):=gF4 rfl Y.f.q49 rfl (by unfold tV;trivial)
instance:Dx B 11 "check_starts" 15 pY:=gX5 ["things", "starts", "thing"] rfl Y.f.q50 rfl (by unfold qE;trivial)
instance:Df B 3 "are_words" (spF B.G qr):=gF4 rfl Y.f.q51 rfl (by unfold xf;trivial)
instance:Df B 1 "has_all" (spF B.G qt):=gF4 rfl Y.f.q52 rfl (by unfold zw;trivial)
instance:Df B 2 "is_told_apart" (spF B.G pH):=gF4 rfl Y.f.q53 rfl (by unfold q9;trivial)
instance:Dx B 11 "check_words_of_things" 15 oe:=gX4 rfl Y.f.q54 rfl (by unfold oq;trivial)
instance:Dx B 2 "check_dark" 15 oO:=gX4 rfl Y.f.q55 rfl (by unfold rB;trivial)
instance:Df B 3 "is_way" (spF B.G pI):=gF4 rfl Y.f.q56 rfl (by unfold yE;trivial)
instance:Dx B 4 "check_ways" 15 px:=gX4 rfl Y.f.q57 rfl (by unfold qF;trivial)
instance:Dx B 2 "check_verbs" 15 sv:=gX4 rfl Y.f.q58 rfl (by unfold uW;trivial)
instance:Df B 1 "are_apart" (spF B.G oJ):=gF4 rfl Y.f.q59 rfl (by unfold xh;trivial)
instance:Dx B 11 "check_vocabulary" 15 oG:=gX4 rfl Y.f.q60 rfl (by unfold pz;trivial)
instance:Dx B 12 "check_parts" 15 nZ:=gX4 rfl Y.f.q61 rfl (by unfold pK;trivial)
instance:Df B 4 "does" (spF B.G rS):=gF4 rfl Y.f.q62 rfl (by unfold GN;trivial)
instance:Df B 4 "refuses" (spF B.G oA):=gF4 rfl Y.f.q63 rfl (by unfold zx;trivial)
instance:Df B 5 "hand_rules" (spN B.G tO):=gN4 rfl Y.f.q64 rfl (by unfold vU;trivial)
instance:Df B 5 "put_rules" (spN B.G uu):=gN4 rfl Y.f.q65 rfl (by unfold xi;trivial)
instance:Df B 5 "lid_rules" (spN B.G uv):=gN4 rfl Y.f.q66 rfl (by unfold xj;trivial)
instance:Df B 5 "flame_rules" (spN B.G sy):=gN4 rfl Y.f.q67 rfl (by unfold uX;trivial)
instance:Df B 3 "way_tests" (spN B.G uw):=gN4 rfl Y.f.q68 rfl (by unfold xk;trivial)
instance:Df B 5 "go_rules" (spN B.G vp):=gN4 rfl Y.f.q69 rfl (by unfold vo;trivial)
instance:Df B 5 "wait_rules" (spN B.G vW):=gN4 rfl Y.f.q70 rfl (by unfold vV;trivial)
instance:Df B 6 "common_rules" (spN B.G rT):=gN4 rfl Y.f.q71 rfl (by unfold ux;trivial)
instance:Df B 3 "common_verbs" (spN B.G qG):=gN4 rfl Y.f.q72 rfl (by unfold uy;trivial)
instance:Df B 1 "by_name" (spF B.G wC):=gF4 rfl Y.f.q73 rfl (by unfold wz;trivial)
instance:Df B 10 "mosts_by_name" (spF B.G rb):=gF4 rfl Y.f.q74 rfl (by unfold ra;trivial)
instance:Df B 1 "verbs_by_word" (spF B.G rg):=gF4 rfl Y.f.q75 rfl (by unfold tW;trivial)
instance:Df B 1 "by_verb" (spF B.G zz):=gF4 rfl Y.f.q76 rfl (by unfold zy;refine⟨Ey (stW (by kernel_rfl) AU rfl) (EV kr rfl (A6 (AX B.G.K (BW (pvI (by kernel_rfl))))) (pgI (by kernel_rfl)) (xy (zI (Fj B.G.K gb ic jO v7 (Gd (pvI (by kernel_rfl)) (FB (BW (pvI (by kernel_rfl))) (Ff.p (B:=B))) (E4 sX) ⟨rfl,rfl,rfl,rfl⟩) (qg (pvI (by kernel_rfl)) sX))))) (BF (PE.ghost (pvI (by kernel_rfl))))⟩)
instance:Mf B 9 "of_kind" sA:=⟨λc h e=>by
 unfold sA at e;split at e
 ·cases e;exact hF4 (k:=8) Y.f.k14 rfl Y.f.q77 rfl (by unfold tX;trivial)
 ·cases e⟩
instance:Mf B 9 "all_verbs" rj:=⟨λc h e=>by
 unfold rj at e;split at e
 ·cases e;exact hF4 (k:=8) Y.f.k14 rfl Y.f.q78 rfl (by unfold sk;trivial)
 ·cases e⟩
instance:Kx B 13 "World" 14 15 pC:=gXI4 Y.f.k14 Y.f.a14 rfl Y.f.q79 rfl rfl (by unfold pB;trivial)
instance:Df B 1 "_law_cell_at" (spF B.G pZ):=gF4 rfl Y.f.q80 rfl (by unfold uz;trivial)
instance:Df B 1 "_law_digit" (spM B.G nF):=gM4 rfl Y.f.q81 rfl rfl (by unfold rD;trivial)
instance:Df B 3 "_law_things" (spM B.G sD):=gM5 ["_law_state", "_law_rooms", "_law_things_here", "_law_holders", "_law_pool", "_law_turn", "_law_k", "_law_name", "_law_words", "_law_kind"] rfl Y.f.q82 rfl rfl (by unfold sC;trivial)
instance:Df B 3 "_law_marks" (spF B.G qH):=gF4 rfl Y.f.q83 rfl (by unfold vY;trivial)
instance:Df B 1 "_law_dark" (spF B.G qV):=gF4 rfl Y.f.q84 rfl (by unfold xl;trivial)
instance:Df B 1 "_law_ways" (spF B.G qX):=gF4 rfl Y.f.q85 rfl (by unfold xm;trivial)
instance:Df B 15 "_law_refused" (spF B.G oj):=gF4 rfl Y.f.q86 rfl (by unfold qI;trivial)
instance:Df B 3 "_law_good" (spL B.G uB):=gL5 ["_law_things_here", "_law_state", "_law_rooms", "_law_marks_here", "_law_dark_here", "_law_doors", "_law_ways_here", "_law_room", "_law_word", "_law_goal"] rfl Y.f.q87 rfl (by unfold uA;trivial)
instance:Df B 1 "_law_put" (spF B.G rV):=gF4 rfl Y.f.q88 rfl (by unfold vq;trivial)
theorem He:Bdz B ["_law_script", "_law_state", "_law_things_here", "_law_marks_here", "_law_dark_here", "_law_ways_here", "_law_menu", "_law_k", "_law_cell", "_law_sort", "_law_odd", "_law_some"] "law" (top 145) (nV (top 145)) 15 Dt:=by
 unfold Dt;refine Dj ?_ ?_
 all_goals trivial
end
end K07x
namespace K07x
open PySem L2 L3 L4
def DL(K:aj):Sp:=λvs H Q _=>∃(a:Addr) (ns:List Int),vs=[.ref a]/\SqL K H a (ns.map V.int)/\ns.length<=63/\∀H',Q (.bl true) H'
theorem zF{G:Bg}{H:Hp}:∀ns:List Int,ny G H (ns.map D.int) (ns.map V.int)
 |[]=>nY
 |n::ns=>n9 (o8 n) (zF ns)
theorem JS{G:Bg}:∀vs H Q E,DL G.K vs H Q E->spF G Km vs H Q E:=λvs H Q E h=>by obtain⟨a,ns,rfl,hs,hl,k⟩:=h;refine⟨H,[.fzl (ns.map D.int)],.bl true,nE.refl _,n9 (by unfold L4.Rep;exact⟨a,_,rfl,hs,zF ns⟩) nY,N1 ns hl,λv H0' H' _ _ _ _ r=>?_⟩;unfold L4.Rep at r;subst r;exact k H'
section
variable{K:aj}{x m q:Str}{st:Stmt}{f C:Addr}{oc:aa}{od:Option Addr}{kV doc pm:aa}{an:Option Addr}{cdv ct:aa}{osl:Array (Option aa)}
theorem Hf(lk:K.lookup f=some ⟨oc,od,.func (dh x q (qv st) (nV st) (nG st) .none kV doc pm an cdv ct),osl⟩)(hc:eW K cdv q=true)(kp:cG K (.ref f)=true):∃fd,Fun K x q st f fd:=⟨_,⟨_,_,_,_,_,_,_,_,_,rfl,lk,hc⟩,kp⟩
theorem gd_mk(h:eZ K aJ x=some (some (.ref f)))(lk:K.lookup f=some ⟨oc,od,.func (dh x x (qv st) (nV st) (nG st) .none kV doc pm an cdv ct),osl⟩)(hc:eW K cdv x=true)(kp:cG K (.ref f)=true):GD K x st:=⟨f,(Hf lk hc kp).imp λ_ F=>⟨h,F⟩⟩
theorem gm_mk(h:cg K (.ref C) m=some (some (.ref f)))(hf:gR K (.ref f)=true)(lk:K.lookup f=some ⟨oc,od,.func (dh m q (qv st) (nV st) (nG st) .none kV doc pm an cdv ct),osl⟩)(hc:eW K cdv q=true)(kp:cG K (.ref f)=true):GM K C m q st:=⟨f,(Hf lk hc kp).imp λ_ F=>⟨h,hf,F⟩⟩
end
theorem all_mk{l:fR}{w:ao}{K:aj}{h:Heap}{mg:Str->Option aa}{fa:Addr}(X:K.In h)(Gn:h.Ns aJ mg)(hfa:mg "law" = some (.ref fa)){C0 C1 C2 C3 C4 C5 C6 C7 C8 C9 C10 C11 C12 C13 C14 C15:Addr}(F:Fx K C0 C1 C2 C3 C4 C5 C6 C7 C8 C9 C10 C11 C12 C13 C14 C15):
  ∃fd:bo,(∀(s:ae) (v:aa),eX s fd ⟨[v],[]⟩ [("_law_script", v)])/\∀base:Heap,K.In base->base.Ns aJ mg->qu l.prog w K mg base CX0 16 fa fd ["_law_script"] (DL K):=by
 have gen:∃B:Bg,B.K=K/\B.ca 0=C0/\B.ca 1=C1/\B.ca 2=C2/\B.ca 3=C3/\B.ca 4=C4/\B.ca 5=C5/\B.ca 6=C6/\B.ca 7=C7/\B.ca 8=C8/\B.ca 9=C9/\B.ca 10=C10/\B.ca 11=C11/\B.ca 12=C12/\B.ca 13=C13/\B.ca 14=C14/\B.ca 15=C15:=⟨⟨K,λc=>[C0,C1,C2,C3,C4,C5,C6,C7,C8,C9,C10,C11,C12,C13,C14,C15].getD c 0⟩,rfl,rfl,rfl,rfl,rfl,rfl,rfl,rfl,rfl,rfl,rfl,rfl,rfl,rfl,rfl,rfl,rfl⟩;obtain⟨B,rfl,rfl,rfl,rfl,rfl,rfl,rfl,rfl,rfl,rfl,rfl,rfl,rfl,rfl,rfl,rfl,rfl⟩:=gen;have Z:∀base,Yx ⟨l.prog,w,mg,base,B⟩:=λbase=>⟨⟨h,X,Gn⟩,F⟩;obtain⟨f,fd,a,FF⟩:=F.q89;have e:=hfa.symm.trans (gQ X Gn a);cases e;obtain⟨oc,od,kV,doc,pm,an,cdv,ct,osl,rfl,lk,hcd⟩:=FF.ex;exact⟨_,λs v=>.of_eq rfl,λbase _ _=>(FX rfl rfl rfl FF (okk (N:=["_law_script", "_law_state", "_law_things_here", "_law_marks_here", "_law_dark_here", "_law_ways_here", "_law_menu", "_law_k", "_law_cell", "_law_sort", "_law_odd", "_law_some"]) (ps:=["_law_script"]) (np:=1) (n:=12) (by kernel_rfl)).1 ((@He _ (Z base)).ok rfl _)).imp (JS (G:=B))⟩
theorem walk{l:fR}{q:ar}{loose:List Str}{XP:(Str->Option aa)->Heap->Prop}{YP:ao->Heap->Prop}{d:DefRec}{K:fU->aj}(hn:l.most=some 63)(hdf:d.params.defaults=[])
  (hY:∀(w:ao) (h:Heap),YP w h->(K w.params).In h)
  (F:∀(w:ao) (mg:Str->Option aa) (fa:Addr) (h:Heap),(K w.params).In h->h.Ns aJ mg->mg d.name=some (.ref fa)->
   ∃fd:bo,(∀(s:ae) (u:aa),eX s fd ⟨[u],[]⟩ [("_law_script", u)])/\∀base:Heap,(K w.params).In base->base.Ns aJ mg->qu l.prog w (K w.params) mg base CX0 16 fa fd ["_law_script"] (DL (K w.params))):
  W.WalkO q loose XP YP l.row.toRowW d [] (λf vs=>i7 f vs):=
 L2.HQ (n:=63) (k:=16) (x:="_law_script") (CX:=λ_=>CX0) (sp:=λw=>DL (K w.params)) hn (by decide) hdf ⟨rfl,by decide,by decide⟩ hY F (λ_ _ a ns hl _ hS=>⟨a,ns,rfl,hS,hl,λ_=>rfl⟩) λ_ _ _ _ _ z=>z
end K07x
set_option maxHeartbeats 0
open PySem PySem.W PyProof.Rows
theorem PySem.Challenge.cw_tellworld_k07_marks_and_ways_that_are_no_holds : PySem.Challenge.rw_tellworld_k07_marks_and_ways_that_are_no.Holds := by
 refine hd ?_
 k_fill
 refine K07x.walk (l:=PySem.Challenge.rw_tellworld_k07_marks_and_ways_that_are_no) rfl rfl (λw h Y=>Y) ?F
 case F=>
  intro w mg fa h KX G hmg;refine' K07x.all_mk KX G hmg ?Q
  case Q=>
   constructor
   all_goals as_aux_lemma=>first
   |k_is
   |kernel_rfl
   |(show W.excIn _ _ _ _=true;first|k_exc|k_is|kernel_rfl)
   |exact⟨⟨⟨by k_is,by k_is,by k_is,by k_is⟩,by k_is,by k_is,by k_is,by k_is⟩,by k_is,by k_is,by kernel_rfl⟩
   |exact⟨_,by k_is⟩
   |exact K07x.gd_mk (by k_is) (by k_is) (by k_is) (by k_is)
   |exact K07x.gm_mk (by k_is) (by k_is) (by k_is) (by k_is) (by k_is)
   |exact⟨_,_,_,_,by k_is,by k_is,by rfl,by rfl,by simp,by repeat' first|exact .nil|exact .cons rfl .nil|refine .cons rfl ?_⟩
   |exact⟨_,_,_,_,[_],_,by k_is,by k_is,⟨⟨_,_,_,_,_,_,_,_,_,rfl,by k_is,by k_is⟩,by k_is⟩,by k_is,by rfl,.cons (by first|rfl|exact⟨_,rfl⟩) .nil⟩
   |exact⟨_,_,_,_,[_,_,_],_,by k_is,by k_is,⟨⟨_,_,_,_,_,_,_,_,_,rfl,by k_is,by k_is⟩,by k_is⟩,by k_is,by rfl,.cons (by first|rfl|exact⟨_,rfl⟩) (.cons (by first|rfl|exact⟨_,rfl⟩) (.cons (by first|rfl|exact⟨_,rfl⟩) .nil))⟩
end
